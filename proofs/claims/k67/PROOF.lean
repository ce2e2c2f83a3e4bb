import PyProof.Rows.All
import Wide.All
import OpenK.AllK
import Wide.FinOn
import Lean
import PyProof.EqAt
import PyProof.EqKinds
import PyProof.TupleCall
import KE.KSortAsk
import KE.KSortTup
import KE.KRevIter
import KE.LcSums
import KE.KDictSum
import KE.KDictList
import PyProof.AttrMissHeap
import PySem.Challenge.RW_gaze_k67_windows_of_rises
set_option Elab.async false
set_option linter.all false
set_option maxRecDepth 100000
set_option maxHeartbeats 4000000
set_option exponentiation.threshold 2000
set_option compiler.extract_closed false
open PySem renaming wpAny_bind → Yo, wpAny_pure → Yu, Value → Yy, Shared → YB, Addr → YC, wpAny → YL, starEach → YQ, sizeLine → YR, mainGlobals → YW, lookup_relabel_local → Y1, bootBuiltins → Zf, wpAny_truthy_bool → Zg, Program → Zo, codeAny_builtin → Zt, wpAny_newObj_type → Zu, compareOp → Zw, wpAny_mono → ZD, wpAny_call_entry → ZJ, wpAny_holding → ZL, wpAny_callSpecial?_slot → ZO, wpAny_Call_Name_kw → ZP, World → ZZ, sysModules → Z8, Around → aac, wpAny_typeNameOfWhole_keyiter → aah, Stmt → aaj, Builtin → aak, plainId_quiet → aam, intItems → aan, backTo → aap, foldedSetIterable → aar, wpAny_dictEntries → aat, mem_of_lookup → aav, wpAny_updateSeq → aaw, behindInMarks → aaG, tupleKind_room_in1 → aaJ, wpAny_missedRemoval_other → aaM, wpAny_typeNameOf_keyiter → aaT, Heap → aaW, DictEntry → aa3, pyNext → aa9, codeAny → abb, size_of_entries → abe, builtinLookup_eq_fast → abf, codeAny_call_builtin → abl, wpAny_seqItems → abm, wpAny_tryCatch → abn, wpAny_fieldsOf → abp, binaryOp → abr, FuncData → abu, wpAny_isInstance → aby, wpAny_askSetting → abz, sizeLine_eq → abA, sliceBounds → abC, wpAny_letGo → abD, wpAny_comprehension_free → abI, wpAny_rule → abJ, wpAny_passesOwn → abL, attributeBase → abN, wpAny_attempt → abQ, wpAny_ite_split → abR, rawInt → abU, wpAny_pyIter_list → abY, wpAny_setState_of → ab3, wpAny_setField → ab5, codeAny_mono → ab7, wpAny_isOneOf_keyiter → acd, Expr → acg, intKind → ach, checkBuiltinCall → acj, wpAny_execs_nil → acq, swapsWith → acr, letOwnedTupleGo → acs, cLine → acv, keywordEach → acw, argBest → acz, wpAny_specialOf → acC, typeLookup_type → acE, wpAny_setEntries_of → acF, Tok → acG, wpAny_field → acI, entryFor → acO, PyData → acP, wpAny_setField_rec → acR, newFunctionEnv → acW, firstArgMember → acY, tupleKind → ac5, assignEach → ac7, wpAny_getItem_list_slice → adb, updateSeq → ade, wpAny_pyIter_enum → adf, wpAny_pyIter_slot → adi, NameKind → adq, richCompare → adv, wpAny_of_eq → adw, wpAny_eqBool_int → adC, argsOk → adE, Scope → adH, wpAny_pyNext_range_end → adI, wpAny_pyIter_rangeiter → adJ, wpAny_pyNext_enum_item → adN, wpAny_isTrue_Compare1 → adV, wpAny_pyNext_enum_end → ad0, wpAny_notOrdered_dict → ad3, wpAny_dictEpoch → ad5, wpAny_pyIter_revIter → aed, wpAny_pyIter_keyiter → aeg, isSubtype_stop → aem, isSubtype_type → aeo, IsRangeIter → aeq, builtinKind → aes, numAt → aet, intItems_at → aeu, call_enumerate_list → aev, atKey → aex, wpAny_standAt → aeF, wpAny_pyIter_tuple → aeG, wpAny_pyIter_range → aeH, getMethod → aeI, Result → aeJ, backToKw → aeK, evalPart_none → aeL, seqItems? → aeO, wpAny_tupleItemsOf → aeX, entryOfKey → ae0, builtinsNs → ae1, BindsTo → ae6, wpAny_call → ae7, typeLookup → ae8, call_meets → afa, list_append → afb, valueAt → aff, Within → afj, seqIndex_neg → afm, wpAny_execs_cons → afp, wpAny_pyIter_zip → afs, compEnvC → afx, setField → afy, hashInt → afz, standAt → afB, lastMarks → afC, getItem → afE, seqIndex_of → afF, slicePick → afG, Keyword → afH, callerA → afI, notedBy → afK, plainId → afL, codeAny_of_tree → afZ, wpAny_Name → af6, typeIs_int → af8, isInstance → af9, closureFor → aga, setsByText → age, newList → agh, newTuple → agk, SetTable → agl, Paired → agq, isTrue → agr, pyIter → ags, typeOf → agv, pickOrder → agC, bindL → agH, bindC → agI, setNext → agJ
open PySem.W renaming Frag → Yp, nsIn → Y5, mg_none_of → Y8, findIn → Y9, kitOne → Zq, kia_one → ZG, mg_of → ZS, emptyDict → ZU, keepIn → aaa, instObj → aau, fnOf → abc, makesIn → abM, callWith_K → abO, subIn → abP, methodCall_KW → ab8, plainGet → aci, plainGet_of → acu, lookIn → acS, typeIn → acT, codeIn → acU, exmOne → acV, methodObj → ac6, hasDictIn → ac8, specialIn → ac9, cellsFrom_some → adK, hideAll → adT, isFn → adW, takerIn → adX, OpenLaw → ad2, KdlSrc → aen, hideAll_get → aep, of_hideAll → aeC, clsIn → aeN, plainOver → ae3, kitx_list → ae4, kitx_dict → ae5, handedIn → afq, kitMeta → afJ, readsIn → afR, findCls → afS, WalkO → agi
open List renaming length_map → Yq, getD_eq_getElem?_getD → Yr, getElem?_eq_getElem → Ys, getElem?_eq_some_iff → Yx, size_toArray → YD, length_range → YE, mem_of_getElem? → YF, getElem?_map → YG, mem_map → YI, mem_cons → YK, length_append → YO, map_cons → YV, mem_append_right → YX, length_singleton → YY, range → YZ, nil_append → Y0, length_filter_le → Y2, mem_append → Y3, mem_filter → Y4, filter_cons → Za, mem_singleton → Zc, mem_cons_of_mem → Zh, getElem?_append_left → Zl, length_cons → Zn, mem_range → Zp, drop_eq_getElem_cons → Zs, mem_iff_getElem? → Zy, getElem?_append_right → Zz, nodup_cons → ZC, filterMap_cons → ZF, map_map → ZH, take_succ → ZI, any_cons → ZN, take_length → ZR, getElem?_range → ZT, getElem?_eq_none → ZV, map_append → Z1, find?_cons → Z2, mem_append_left → Z4, lookup_cons → Z6, all_eq_true → Z7, length_reverse → Z9, any_eq_true → aai, getElem?_cons_succ → aal, length_eq_zero_iff → aao, filter_eq_self → aay, map_congr_left → aaA, length_take → aaF, getElem?_reverse → aaH, toArray → aaI, take_append_drop → aaK, replicate → aaL, length_nil → aaR, getElem?_replicate → aaZ, drop_eq_nil_of_le → aa5, mem_cons_self → aa7, length_drop → abv, not_mem_nil → abw, lookup → abB, filter_sublist → abE, getElem?_set_self → abT, drop_of_length_le → abW, reverse_cons → abZ, ext_getElem? → ab1, length_replicate → ab9, getElem?_set_ne → acn, toList_toArray → acH, mem_filterMap → acM, map_nil → acN, pairwise_iff_getElem → acX, nodup_nil → ac0, findIdx?_eq_none_iff → ac1, append_assoc → adg, pairwise_map → adh, foldl_append → adj, length_erase_of_mem → adl, nodup_append → adm, eraseIdx_cons_succ → ady, drop_length → adD, getElem_mem → adF, ext_getElem → adG, take_of_length_le → adO, length_pos_of_mem → adS, of_mem_zip → adY, length_set → adZ, range_succ → aeb, pairwise_append → aei, mem_erase_of_ne → aej, getElem_of_mem → aey, flatMap_append → aez, length_flatMap → aeA, sum_cons → aeR, pairwise_cons → aeV, getElem?_drop → aeY, any_eq_false → ae2, mem_flatMap → afw, append_nil → afD, foldl_cons → afM, length_zip → afO, sum_append → afU, getD → af1, all_cons → agg, findIdx? → agn, sum_nil → agy, all_map → agB, map_id' → agE
open PySem.Heap renaming get?_push_of_some → Yt, lt_size → Yv, get?_push_size → YA, get?_update_other → YM, get?_update_self → Ze, size_push → aab, FlyingW → afo, ExtBut → afV
open Nat renaming le_trans → Yw, le_refl → Yz, ne_of_lt → YH, lt_of_lt_of_le → YJ, zero_le → YS, ne_of_gt → Zx, lt_of_le_of_lt → ZE, lt_irrefl → ZK, not_lt_zero → aad, lt_succ_of_lt → abj, lt_succ_self → abt, le_of_lt → ab6, le_succ → acx, lt_of_succ_lt_succ → adQ, min_eq_left → ad1, sub_self → aea, min_eq_right → afu, succ_ne_self → afv, le_of_eq → agu, lt_trans → agz, zero_add → agD
open Bool renaming false_ne_true → YN, false_eq_true → YT, and_eq_true → Z5, eq_iff_iff → aba, eq_false_iff → abh, false_and → ab4, or_eq_true → acA, and_self → adx, true_and → adA, and_false → aek, not_true → aeW, not_eq_true' → afc, not_false → af5, false_or → agj
open PySem.Value renaming ref → YU, bool → Z3, int → aaO, isInt → abX, type → ac4, builtin → adu, str → aeB, float → afA, isStrOf → agf, bytes → agF
open Option renaming map_eq_some_iff → Y6, isSome_iff_exists → aaQ, isNone → abk, getD_some → abx, ne_none_iff_exists' → acL, toList_some → aeQ, isSome_some → aeS, isSome_map → afg
open PyProof.Rows renaming callWith_type1 → Y7, envOfC → aaf, callWith_builtin1 → aaX, seqObj → aa8, kindOf → ada, IntsAre → ads, subscriptTail → adt, subscriptTail_builtinR → adL, AllBare → adU, mirror_perm → aew, Constant_none → aeE, listUpdate_at → aeU, Subscript_ → ae9, get?_update_seq → afW, seqEpoch_at → afX, mulOk_of_bits → af2, boot_range → af7, test_link → agt, bits_add → agw, bits_mul → agx, Call_ → agG
open Array renaming getElem?_eq_getElem → Zb, length_toList → aaY, getElem?_eq_none → aa6, getElem?_toList → ace, getD_eq_getD_getElem? → acB, toArray_toList → aeh, append_assoc → aeD, toList_push → afi, toList → afk, getD → agb
open PySem.PassesOwn renaming never → Zd, leaving → aaV
open PySem.Around renaming under_plainId → Zi, under → afl
open Ne renaming symm → Zj
open PySem.F renaming plainAttrs_list → Zk, slot_list_append → ZX, type_list_append → ZY, slot_dict_keyiterator_next → Z0, slot_enumerate_next → aaC, plain_min_loop → aaD, plain_extend_loop → aaN, args_dict_keyiterator_next_1 → abo, entry_dict_keyiterator_next → abF, slot_list_index → abS, entry_min_loop → abV, args_enumerate_next_1 → ack, entry_enumerate_next → acp, excBase_ValueError → acK, entry_extend_loop → ac2, slot_list_extend → adn, type_list_extend → ado, type_list_index → adB, slot_dict_iter → adP, slot_dict_pop → ad4, slot_dict_len → ad6, slot_tuple_lt → ad7, plain_set_new → ad8, args_list_append_2 → aec, entry_list_append → aer, slot_list_append → aeM, plain_min → afd, entry_min → afe, kind_min → afr, slot_set_iter → af0
open Int renaming toNat_natCast → Zm, le_refl → Zv, toNat_of_nonneg → aaB, mul_nonneg → aa4, le_trans → abK, zero_add → acf, mul_le_mul_of_nonneg_left → acm, mul_le_mul → ac3, toNat → ad9, emod_lt_of_pos → aeP, ediv_le_self → aft, le_antisymm → afN, ediv_nonneg → afP, emod_nonneg → afT, ediv_one → agA, add_mul → agK
open PySem.Builtin.Range renaming rangeSize → Zr, rangeFitsLong → afQ
open PySem.Heap.SameBut renaming update → ZA
open PySem.Obj renaming mapSeq → ZM, mapFields → abi, data_mapDictKeys → aef, data_mapFields → aeT, putSet → agd
open PySem.Str renaming ofString → ZQ
open PySem.SetTable.below renaming go → ZW
open PySem.Calls renaming spliced_cons → aae, spliced_nil → aas, evalArgs_plain → aco, Name_function_global → acJ, call_function_entry → acZ, callWith_builtin → adM
open PySem.PyData renaming eqv → aag, eqvAll → aa1, depthAll → abd, canLayAll0 → ab0, canLay0 → ael
open PyProof.Rows.F renaming plain_set_update_loop → aaq, entry_set_update_loop → abq
open PySem.Builtin.Builtins renaming bindParams → aax
open PySem.Builtin.List renaming listExtendWith → aaz, listLengthHint → abg, listTooLong → abH, listSameRef → adk, listItems → adR, listUpdate → ago, listTouch → agp
open False renaming elim → aaE
open True renaming intro → aaP
open PySem.W.WData renaming int → aaS, weightAll → aa2, layable → acb, weight → aee, layableAll → agc
open PySem.SetTable.probe renaming go → aaU
open PySem.Builtin.Int renaming intBits → aa0
open PySem.Builtin.SmallTypes renaming ownedTupleIsFree → abG
open PySem.SetTable renaming insertAt → ab2, probeStart → acD, has → acQ, fill → adz, freeSlot → afh, runEnd → afY, probe → af3, turns → af4, slot → agm
open Or renaming inl → aca, inr → afn
open ForInStep renaming yield → acy
open Sum renaming inl → adp, inr → aeZ
namespace L2
open PySem PySem.Spec PyProof.Rows
abbrev Key:=Sum Int Str
noncomputable def nH:Key->Yy->Bool
 | .inl k,v=>abX k v
 | .inr x,v=>agf x v
noncomputable def Kp(w:ZZ):Key->Int
 | .inl k=>afz k
 | .inr x=>hashStr w x
theorem jX:∀ {k:Key} {v:Yy},nH k v=true->(∃ i t,k=adp i/\v=aaO i t)∨(∃ x t,k=aeZ x/\v=aeB x t)
 | .inl i,v,h=>by obtain⟨t,e⟩:=Value.isInt_shape (k:=i) (v:=v) h;exact .inl ⟨i,t,rfl,e⟩
 | .inr x,v,h=>by obtain⟨t,e⟩:=Value.isStrOf_shape (x:=x) (v:=v) h;exact .inr ⟨x,t,rfl,e⟩
theorem Kq(i:Int)(t:Tok):nH (.inl i) (.int i t)=true:=by simp[nH,abX]
theorem Kr(x:Str)(t:Tok):nH (.inr x) (.str x t)=true:=by simp[nH,agf]
theorem Ks(a b:Int):decide ((adp a:Key)=adp b)=(a == b):=by
 by_cases e:a=b
 .subst e;simp
 .have h:¬ (adp a:Key)=adp b:=λq=>e (Sum.inl.inj q);rw[decide_eq_false h];exact (beq_eq_false_iff_ne.mpr e).symm
theorem Kt(a b:Str):decide ((aeZ a:Key)=aeZ b)=decide (a=b):=by
 by_cases e:a=b
 .subst e;simp
 .have h:¬ (aeZ a:Key)=aeZ b:=λq=>e (Sum.inr.inj q);rw[decide_eq_false h,decide_eq_false e]
theorem Ku(a:Int)(b:Str):decide ((adp a:Key)=aeZ b)=false:=decide_eq_false (λq=>nomatch q)
theorem Kv(a:Str)(b:Int):decide ((aeZ a:Key)=adp b)=false:=decide_eq_false (λq=>nomatch q)
noncomputable def eo(prog:Zo)(w:ZZ):PySem.KeyKind prog w Key where
 is:=nH
 hash:=Kp w
 inj:=λv a b ha hb=>by
  rcases jX ha with ⟨i,t,rfl,rfl⟩|⟨x,t,rfl,rfl⟩
  .rcases jX hb with ⟨j,u,rfl,e⟩|⟨y,u,rfl,e⟩
   .injection e with e1 _;rw[e1]
   .exact nomatch e
  .rcases jX hb with ⟨j,u,rfl,e⟩|⟨y,u,rfl,e⟩
   .exact nomatch e
   .injection e with e1 _;rw[e1]
 byValue:=λk v h=>by
  rcases jX h with ⟨i,t,rfl,rfl⟩|⟨x,t,rfl,rfl⟩<;>rfl
 pyHash:=λhv h=>by
  rcases jX hv with ⟨i,t,rfl,rfl⟩|⟨x,t,rfl,rfl⟩
  .exact wpAny_pyHash_int h
  .exact wpAny_pyHash_str h
 eqBool:=λhu hv h=>by
  rcases jX hu with ⟨i,t,rfl,rfl⟩|⟨x,t,rfl,rfl⟩
  .rcases jX hv with ⟨j,u,rfl,rfl⟩|⟨y,u,rfl,rfl⟩
   .rw[Ks] at h;exact adC h
   .rw[Ku] at h;exact SeqAt.EqAt.int_str i t y u _ _ _ _ h
  .rcases jX hv with ⟨j,u,rfl,rfl⟩|⟨y,u,rfl,rfl⟩
   .rw[Kv] at h;exact SeqAt.EqAt.str_int x t j u _ _ _ _ h
   .rw[Kt] at h;exact wpAny_eqBool_str h
 «strs»:=λk x t v h=>by
  rcases jX h with ⟨i,u,rfl,e⟩|⟨y,u,rfl,e⟩
  .exact nomatch e
  .injection e with e1 _;subst e1;cases v<;>rfl
theorem Kw(prog:Zo)(w:ZZ)(i:Int)(t:Tok):(eo prog w).is (.inl i) (.int i t)=true:=Kq i t
theorem Kx(prog:Zo)(w:ZZ)(x:Str)(t:Tok):(eo prog w).is (.inr x) (.str x t)=true:=Kr x t
inductive V where
 | non|bl (b:Bool)|int (i:Int)|str (x:Str)|byt (b:Array UInt8)|flt (b:UInt64)|ref (a:YC)|ty (n:String)
 deriving DecidableEq
def RelV:V->Yy->Prop
 | .non,u=>u=Value.none
 | .bl b,u=>u=Z3 b
 | .int i,u=>∃ t,u=aaO i t
 | .str x,u=>∃ t,u=aeB x t
 | .byt b,u=>∃ t,u=agF b t
 | .flt b,u=>∃ t,u=afA b t
 | .ref a,u=>u=YU a
 | .ty n,u=>u=ac4 n
abbrev Vals:List V->List Yy->Prop:=agq RelV
theorem Vals.length(r:Vals xs us):xs.length=us.length:=Paired.length r
theorem Vals.get:∀ {xs:List V} {us:List Yy} {i:Nat} {x:V},Vals xs us->xs[i]?=some x->∃ u,us[i]?=some u/\RelV x u
 | _,_,_,_,.nil,e=>by simp at e
 | _,_,0,_,.cons r _,e=>by simp at e;subst e;exact⟨_,rfl,r⟩
 | _,_,i+1,x,.cons _ t,e=>by obtain⟨u,h1,h2⟩:=Vals.get (i:=i) (x:=x) t (by simpa using e);exact⟨u,by simpa using h1,h2⟩
theorem Vals.set(r:RelV x u):∀ {xs:List V} {us:List Yy} (i:Nat),Vals xs us->Vals (xs.set i x) (us.set i u)
 | _,_,_,.nil=>.nil
 | _,_,0,.cons _ t=>.cons r t
 | _,_,i+1,.cons q t=>.cons q (Vals.set r i t)
theorem Vals.append:∀ {xs ys:List V} {us ws:List Yy},Vals xs us->Vals ys ws->Vals (xs++ys) (us++ws)
 | _,_,_,_,.nil,s=>s
 | _,_,_,_,.cons r t,s=>.cons r (Vals.append t s)
theorem Vals.take:∀ {xs:List V} {us:List Yy} (n:Nat),Vals xs us->Vals (xs.take n) (us.take n)
 | _,_,0,_=>.nil
 | _,_,_+1,.nil=>.nil
 | _,_,n+1,.cons r t=>.cons r (Vals.take n t)
theorem Vals.drop:∀ {xs:List V} {us:List Yy} (n:Nat),Vals xs us->Vals (xs.drop n) (us.drop n)
 | _,_,0,r=>r
 | _,_,_+1,.nil=>.nil
 | _,_,n+1,.cons _ t=>Vals.drop n t
def eU:Option V->Option Yy->Prop
 | some v,some u=>RelV v u
 | none,none=>True
 | _,_=>False
def KV{κ:Type}:List (κ × V)->List (κ × Yy)->Prop:=agq λ(p:κ × V) (q:κ × Yy)=>p.1=q.1/\RelV p.2 q.2
noncomputable def kV:Key->V
 | .inl i=>.int i
 | .inr x=>.str x
inductive HO where
 | lst (xs:List V)
 | tup (xs:List V)
 | dK (kvs:List (Key × V))|dT (kvs:List (List Key × V))
 | set (S:Int->Bool) (n:Nat)
 | ins (C dx:YC) (fs:List (Str × V))
 | own (x:YC)
 | xd (fs:List (Str × V))
 | met (f x:YC)
 | fF (lo hi:Int)
 | aQ (o:Obj) (u:HO)
 | tbl (ps:Array Yy)
 | ext (φ:aaW->Prop)
abbrev Hp:=YC->Option HO
noncomputable def upd(H:Hp)(a:YC)(o:HO):Hp:=λb=>if b=a then some o else H b
theorem ax:upd H a o a=some o:=by unfold upd;rw[if_pos rfl]
theorem aD(h:b≠a):upd H a o b=H b:=by unfold upd;rw[if_neg h]
theorem jd:upd (upd H a o) a u=upd H a u:=by funext b;unfold upd;split<;>rfl
theorem nI{H:Hp}{a b:YC}{o u:HO}(h:H a=some o)(h':H b=some u)(d:o≠u):a≠b:=by intro e;subst e;rw[h] at h';exact d (Option.some.inj h')
theorem ir{H:Hp}{a b:YC}{o:HO}(h:H a=some o)(h':H b=none):a≠b:=by intro e;subst e;rw[h] at h';cases h'
section
variable(P:Zo)(w:ZZ)
def br(H:Hp)(h:aaW)(a:YC):HO->Prop
 | .lst xs=>xs.length<=YR/\∃ (ao:List Yy) (n:Nat),Vals xs ao/\h.get? a=some { cls:=.type "list",data:=.seq ao.toArray n }
 | .tup xs=>xs.length<=YR/\∃ ao:List Yy,Vals xs ao/\IsTup h a ao.toArray
 | .dK kvs=>kvs.length<=YR/\(a == Z8)=false/\∃ vs,KV kvs vs/\h.DictOf (eo P w) a vs
 | .dT kvs=>kvs.length<=YR/\(a == Z8)=false/\∃ xs:List (List Key × YC × Yy),
  agq (λ(p:List Key × V) (q:List Key × YC × Yy)=>p.1=q.1/\H q.2.1=some (.tup (p.1.map kV))/\RelV p.2 q.2.2) kvs xs /\
  ∃ o es ep,h.get? a=some o/\o.ExactDict/\o.data = .dict es ep/\es.toList=xs.map (ae0 (ac5 (eo P w)))/\(xs.map (·.1)).Nodup
 | .set S n=>h.SetOf (ach P w) a S n
 | .ins C dx fs=>H dx=some (.own a)/\fs.length<=1000/\dx≠a/\h.get? a=some (aau C dx) /\
  ∃ mA,h.Ns1 dx mA/\(∀ f,eU (fs.lookup f) (mA f))/\afj mA (fs.map (·.1))
 | .own _=>∃ o,h.get? a=some o
 | .xd fs=>∃ mA,h.Ns1 a mA/\∀ f,eU (fs.lookup f) (mA f)
 | .fF lo hi=>∃ t u v,h.get? a=some { cls:=.type "range",data:=.fields #[.int lo t,.int hi u,.int 1 v] }
 | .aQ o u=>h.get? a=some o/\br H h a u
 | .tbl ps=>h.get? a=some { cls:=.none,data:=.fields ps }
 | .met f x=>h.get? a=some (ac6 (.ref f) (.ref x))
 | .ext φ=>φ h/\(∃ o,h.get? a=some o)/\∀ h1 h2:aaW,φ h1->(∀ o,h1.get? a=some o->h2.get? a=some o)->φ h2
def bK(H:Hp)(h:aaW):Prop:=∀ a o,H a=some o->br P w H h a o
end
section
theorem br.lt(x:br P w H h a o):a<h.objs.size:=by
 cases o with
 | lst xs=>obtain⟨_,_,_,_,e⟩:=x;exact Yv e
 | tup xs=>obtain⟨_,_,_,p⟩:=x;exact p.lt
 | dK kvs=>obtain⟨_,_,_,_,o,_,_,e,_⟩:=x;exact Yv e
 | dT kvs=>obtain⟨_,_,_,_,o,_,_,e,_⟩:=x;exact Yv e
 | set S n=>obtain⟨o,_,_,_,e,_⟩:=x;exact Yv e
 | ins C dx fs=>obtain⟨_,_,_,e,_⟩:=x;exact Yv e
 | own y=>obtain⟨_,e⟩:=x;exact Yv e
 | xd fs=>obtain⟨_,⟨_,_,_,e,_⟩,_⟩:=x;exact Yv e
 | fF lo hi=>obtain⟨_,_,_,e⟩:=x;exact Yv e
 | aQ ob u=>obtain⟨e,_⟩:=x;exact Yv e
 | tbl ps=>exact Yv (show h.get? a=some _ from x)
 | met f y=>exact Yv (show h.get? a=some _ from x)
 | ext φ=>obtain⟨_,⟨_,e⟩,_⟩:=x;exact Yv e
theorem Paired.wx:∀ {l₁:List α} {l₂:List β},agq F l₁ l₂->(∀ a b,F a b->G a b)->agq G l₁ l₂
 | _,_,.nil,_=>.nil
 | _,_,.cons r t,f=>.cons (f _ _ r) (Paired.wx t f)
theorem br.fG(x:br P w H h a o)(k:∀ b u,(b=a∨H b=some (.own a))->h.get? b=some u->h'.get? b=some u)(ho:∀ b,H b=some (.own a)->H' b=some (.own a))(ht:∀ b xs,H b=some (.tup xs)->H' b=some (.tup xs)):br P w H' h' a o:=by
 induction o with
 | lst xs=>obtain⟨z,ao,n,r,e⟩:=x;exact⟨z,ao,n,r,k _ _ (.inl rfl) e⟩
 | tup xs=>obtain⟨z,ao,r,ob,e,c⟩:=x;exact⟨z,ao,r,ob,k _ _ (.inl rfl) e,c⟩
 | dK kvs=>obtain⟨z,y,vs,r,ob,es,ep,e,c⟩:=x;exact⟨z,y,vs,r,ob,es,ep,k _ _ (.inl rfl) e,c⟩
 | dT kvs =>
  obtain⟨z,y,xs,r,ob,es,ep,e,c⟩:=x;exact⟨z,y,xs,Paired.wx r λp q z=>⟨z.1,ht _ _ z.2.1,z.2.2⟩,ob,es,ep,k _ _ (.inl rfl) e,c⟩
 | set S n=>obtain⟨ob,es,ep,t,e,c⟩:=x;exact⟨ob,es,ep,t,k _ _ (.inl rfl) e,c⟩
 | ins C dx fs =>
  obtain⟨d,z,ne,e,mA,⟨od,es,ep,e2,c⟩,r⟩:=x;exact⟨ho _ d,z,ne,k _ _ (.inl rfl) e,mA,⟨od,es,ep,k _ _ (.inr d) e2,c⟩,r⟩
 | own y=>obtain⟨ob,e⟩:=x;exact⟨ob,k _ _ (.inl rfl) e⟩
 | xd fs=>obtain⟨mA,⟨od,es,ep,e,c⟩,r⟩:=x;exact⟨mA,⟨od,es,ep,k _ _ (.inl rfl) e,c⟩,r⟩
 | fF lo hi=>obtain⟨t,u,v,e⟩:=x;exact⟨t,u,v,k _ _ (.inl rfl) e⟩
 | aQ ob u ih=>obtain⟨e,q⟩:=x;exact⟨k _ _ (.inl rfl) e,ih q⟩
 | tbl ps =>
  have e:h.get? a=some { cls:=.none,data:=.fields ps }:=x;show h'.get? a=some { cls:=.none,data:=.fields ps };exact k a _ (.inl rfl) e
 | met f y =>
  have e:h.get? a=some (ac6 (.ref f) (.ref y)):=x;show h'.get? a=some (ac6 (.ref f) (.ref y));exact k a _ (.inl rfl) e
 | ext φ=>obtain⟨p,⟨o,e⟩,st⟩:=x;exact⟨st _ _ p λo q=>k _ _ (.inl rfl) q,⟨o,k _ _ (.inl rfl) e⟩,st⟩
theorem bK.lt(x:bK P w H h)(e:H a=some o):a<h.objs.size:=(x a o e).lt
theorem bK.fresh(x:bK P w H h)(e:h.objs.size<=a):H a=none:=by
 cases q:H a with
 | none=>rfl
 | some u=>exact absurd (YJ (x.lt q) e) (ZK _)
theorem bK.kept(x:bK P w H h)(k:∀ b u,h.get? b=some u->h'.get? b=some u):bK P w H h':=λa o e =>
 (x a o e).fG (λb u _ q=>k b u q) (λ_ q=>q) λ_ _ q=>q
theorem bK.laid(x:bK P w H h)(k:∀ b u,h.get? b=some u->h'.get? b=some u)(hp:h.objs.size<=a)(new:br P w (upd H a o) h' a o):bK P w (upd H a o) h':=λb u e=>by
 have hn:=x.fresh hp;by_cases hb:b=a
 .subst hb;rw[ax] at e;cases e;exact new
 .rw[aD hb] at e;exact (x b u e).fG (λc v _ q=>k c v q) (λc q=>by rw[aD (ir q hn)];exact q) λc xs q=>by rw[aD (ir q hn)];exact q
end
def Rd(H:Hp)(a:YC)(u:HO):Prop:=H a=some u ∨ ∃ o,H a=some (.aQ o u)
theorem Rd.ok(r:Rd H a u)(x:bK P w H h):br P w H h a u:=by
 rcases r with r|⟨o,r⟩
 .exact x a u r
 .obtain⟨_,q⟩:=x a _ r;exact q
def pO:Option HO->Prop
 | some (.lst _)=>True
 | some (.dK _)=>True
 | some (.dT _)=>True
 | some (.set _ _)=>True
 | some (.ins _ _ _)=>True
 | some (.ext _)=>True
 | _=>False
section
theorem bK.write(ok:bK P w H h)(mu:pO (H x))(he:e=x∨H e=some (.own x))(k:∀ b u,b≠e->h.get? b=some u->h'.get? b=some u)(nJ:∃ u,h'.get? e=some u)(new:br P w (upd H x o') h' x o'):bK P w (upd H x o') h':=λb u q=>by
 have BP:∀ c y,H c=some (.own y)->c≠x:=λc y r z=>by subst z;rw[r] at mu;exact mu
 have Ky:∀ c xs,H c=some (.tup xs)->c≠x:=λc xs r z=>by subst z;rw[r] at mu;exact mu
 by_cases hb:b=x
 .subst hb;rw[ax] at q;cases q;exact new
 .rw[aD hb] at q;by_cases je:b=e
  .have q':H b=some (.own x):=by
    rcases he with z|z
    .exact absurd (je.trans z) hb
    .rw[je];exact z
   rw[q] at q';cases q';obtain⟨v,hv⟩:=nJ;exact⟨v,by rw[je];exact hv⟩
  .refine (ok b u q).fG (λc v hc r=>k c v ?_ r) (λc r=>by rw[aD (BP c b r)];exact r) λc xs r=>by rw[aD (Ky c xs r)];exact r
   rcases hc with rfl|hc
   .exact je
   .rintro rfl;rcases he with z|z
    .exact BP c b hc z
    .rw[hc] at z;cases z;exact hb rfl
end
structure Un(fs ex:List YC)(H H':Hp)(h h':aaW):Prop where
 keep:∀ b o,h.get? b=some o->H b=none->b∉fs->b∉ex->h'.get? b=some o
 slot:∀ b o,h.get? b=some o->H b=none->b∈fs->b∉ex->∃ sl,h'.get? b=some { o with slots:=sl }
 free:∀ b o,h.get? b=some o->H b=none->b∉ex->H' b=none
 there:∀ b o,h.get? b=some o->b∉ex->∃ o',h'.get? b=some o'
 eV:∀ b xs,H b=some (.tup xs)->H' b=some (.tup xs)
 dR:∀ b o u,H b=some (.aQ o u)->H' b=some (.aQ o u)
 eW:∀ b ps,H b=some (.tbl ps)->∃ more,H' b=some (.tbl (ps++more))
section
variable{fs XY ex XZ:List YC}{H H1 H2:Hp}{h h1 h2 h':aaW}{a x e:YC}{o:HO}
theorem Un.any(u:Un fs ex H H1 h h1)(q:h.get? b=some ob)(n:H b=none)(hx:b∉ex):∃ sl,h1.get? b=some { ob with slots:=sl }:=by
 by_cases hb:b∈fs
 .exact u.slot b ob q n hb hx
 .exact⟨ob.slots,u.keep b ob q n hb hx⟩
theorem Un.kept(k:∀ b u,h.get? b=some u->h'.get? b=some u):Un fs ex H H h h' :=
 ⟨λb ob q _ _ _=>k b ob q,λb ob q _ _ _=>⟨ob.slots,k b ob q⟩,λ_ _ _ n _=>n,λb ob q _=>⟨ob,k b ob q⟩,λ_ _ q=>q,λ_ _ _ q=>q,λ_ ps q=>⟨#[],by rw[q];simp⟩⟩
theorem Un.refl:Un fs ex H H h h:=Un.kept λ_ _ q=>q
theorem Un.laid(k:∀ b u,h.get? b=some u->h'.get? b=some u)(hp:h.objs.size<=a)(hn:H a=none):Un fs ex H (upd H a o) h h' where
 keep:=λb u q _ _ _=>k b u q
 slot:=λb u q _ _ _=>⟨u.slots,k b u q⟩
 free:=λb u q n _=>by rw[aD (YH (YJ (Yv q) hp))];exact n
 there:=λb u q _=>⟨u,k b u q⟩
 eV:=λb xs q=>by rw[aD (ir q hn)];exact q
 dR:=λb u xs q=>by rw[aD (ir q hn)];exact q
 eW:=λb ps q=>⟨#[],by rw[aD (ir q hn),q];simp⟩
theorem Un.write(mu:pO (H x))(he:e=x∨H e=some (.own x))(k:∀ b u,b≠e->h.get? b=some u->h'.get? b=some u)(nJ:∃ u,h'.get? e=some u):Un fs ex H (upd H x o) h h':=by
 have hx:∀ b,H b=none->b≠x:=λb n z=>by subst z;rw[n] at mu;exact mu
 have hb:∀ b,H b=none->b≠e:=λb n z=>by
  subst z;rcases he with r|r
  .exact hx b n r
  .rw[n] at r;cases r
 have hm:∀ b u,H b=some u->¬ pO (some u)->b≠x:=λb u q nm z=>by subst z;rw[q] at mu;exact nm mu
 refine⟨λb u q n _ _=>k b u (hb b n) q,λb u q n _ _=>⟨u.slots,k b u (hb b n) q⟩,λb u q n _=>by rw[aD (hx b n)];exact n,λb u q _=>?_,
  λb xs q=>by rw[aD (hm b _ q λz=>z)];exact q,λb u xs q=>by rw[aD (hm b _ q λz=>z)];exact q,λb ps q=>⟨#[],by rw[aD (hm b _ q λz=>z),q];simp⟩⟩
 by_cases je:b=e
 .subst je;exact nJ
 .exact⟨u,k b u je q⟩
end
noncomputable def tL(h:aaW)(H:Hp):List YC:=(YZ h.objs.size).filter λa=>(H a).isSome
noncomputable def jY(h:aaW)(H:Hp):aaW:=adT h (tL h H)
theorem Kz(h:aaW)(H:Hp):(jY h H).objs.size=h.objs.size:=PySem.W.hideAll_size _ _
theorem KA(e:h.get? b=some o)(n:H b=none):(jY h H).get? b=some o :=
 aep _ e λhm=>by have q:(H b).isSome=true:=(Y4.mp hm).2;rw[n] at q;simp at q
theorem KC(e:(jY h H).get? b=some o):h.get? b=some o/\H b=none:=by
 have e':h.get? b=some o:=aeC (tL h H) e;refine⟨e',?_⟩;cases q:H b with
 | none=>rfl
 | some x =>
  have hm:b∈tL h H:=Y4.mpr ⟨Zp.mpr (Yv e'),by simp[q]⟩;have z:(jY h H).get? b=none:=PySem.W.hideAll_none (tL h H) hm;rw[z] at e;cases e
noncomputable def KD(g h:aaW)(L:YC):List (YC × Obj):=(YZ h.objs.size).filterMap λa=>if a=L∨(g.get? a).isSome=true then none else (h.get? a).map λo=>(a,o)
noncomputable def rest(g h:aaW)(L d:YC):List (YC × Obj):=(KD g h L).filter λp=>decide (p.1≠d)
structure Mod(K:Yp)(mg:Str->Option Yy)(base:aaW):Prop where
 kin:K.In base
 glob:base.Ns YW mg
 blt:∃ mb,base.Ns ae1 mb/\∀ x:Str,x ≠ "__name__" -> mb x=Zf x
 nolimit:base.NoLimit
structure Cx where
 prog:Zo
 w:ZZ
 K:Yp
 mg:Str->Option Yy
 base:aaW
 A:aac
 N:List Str
 s₀:YB
 H₀:Hp
 env:Env
 outer:List Env
 stack:List Env
 ex:List YC
 fn:Str->Bool
 calm:Bool
 pn:List (YC × Obj)
 xe:Yy->YB->Prop
noncomputable def aU(l:List Env):List YC:=l.filterMap (·.frame)
noncomputable abbrev Cx.fs(X:Cx):List YC:=aU X.outer
def tM(sc:adH)(x:Str):Prop:=sc.names.lookup x=some .local∨sc.names.lookup x=some .cell∨sc.names.lookup x=some .free
def Loc(sc:adH)(x:Str):Prop:=sc.names.lookup x=some .local∨sc.names.lookup x=some .cell
def Look(env:Env)(h:aaW)(m:Str->Option Yy)(x:Str)(u:Yy):Prop :=
 (env.kindOf x=some .local/\m x=some u)∨((env.kindOf x=some .cell∨env.kindOf x=some .free)/\∃ c,env.cells.lookup x=some c/\h.IsCell c (some u))
structure Cx.Ok(X:Cx):Prop where
 mod:Mod X.K X.mg X.base
 kind:X.env.scope.kind = .function
 glob:X.env.globals=YW
 blt:X.env.builtins=ae1
 above:X.s₀.heap.objs.size<=X.env.locals
 inj:∀ x y c,X.env.cells.lookup x=some c->X.env.cells.lookup y=some c->x=y
 has:∀ x,(X.env.kindOf x=some .cell∨X.env.kindOf x=some .free)->∃ c,X.env.cells.lookup x=some c
 cab:∀ x c,X.fn x=true->X.env.cells.lookup x=some c->X.s₀.heap.objs.size<=c
 hd:X.calm=true->X.A.handled=none
 frames:X.A.frames=some X.stack
 stk:X.stack=X.outer∨(X.stack=X.env::X.outer/\X.env.frame=some X.env.locals)
 exf:∀ b∈X.ex,b≠X.env.locals/\∀ x c,X.env.cells.lookup x=some c->c≠b
 bs:∀ b o,X.base.get? b=some o->X.s₀.heap.get? b=some o/\X.H₀ b=none
 bsz:X.base.objs.size<=X.s₀.heap.objs.size
 noex:∀ b o,X.base.get? b=some o->b∉X.ex
 exfs:∀ b∈X.ex,b∉X.fs
 fo:X.s₀.heap.FunFrames X.base X.outer
 frf:∀ b∈X.fs,X.H₀ b=none
structure Inv(X:Cx)(pins:List (YC × Obj))(σ:List (Option V))(H:Hp)(s:YB):Prop where
 ok:X.Ok
 os:s.os=X.s₀.os
 bare:adU s.gens
 base:Un X.fs X.ex X.H₀ H X.s₀.heap s.heap
 loc:∃ m,s.heap.Ns X.env.locals m/\∀ (i:Nat) (x:Str) (v:V),X.N[i]?=some x->σ[i]?=some (some v)->tM X.env.scope x->∃ u,RelV v u/\Look X.env s.heap m x u
 cell:∀ x c,X.env.cells.lookup x=some c->∃ v,s.heap.IsCell c v
 free:H X.env.locals=none
 eB:∀ x c,X.env.cells.lookup x=some c->H c=none
 pin:∀ p∈X.pn++pins,s.heap.get? p.1=some p.2/\H p.1=none/\p.1≠X.env.locals/\p.1∉X.fs/\∀ v,p.2.data ≠ .cell v
 ay:bK X.prog X.w H s.heap
 len:σ.length=X.N.length
section
variable{X:Cx}{pins:List (YC × Obj)}{σ:List (Option V)}{H H':Hp}{s:YB}{h':aaW}
theorem Cx.Ok.jZ(ok:X.Ok){b:YC}{o:Obj}(e:X.base.get? b=some o):b∉X.fs:=λhb=>by have:=(ok.fo.mem hb).1;rw[e] at this;cases this
theorem Inv.bs(I:Inv X pins σ H s):∀ b o,X.base.get? b=some o->s.heap.get? b=some o/\H b=none:=λb o e =>
 ⟨I.base.keep b o (I.ok.bs b o e).1 (I.ok.bs b o e).2 (I.ok.jZ e) (I.ok.noex b o e),I.base.free b o (I.ok.bs b o e).1 (I.ok.bs b o e).2 (I.ok.noex b o e)⟩
theorem Inv.bk(I:Inv X pins σ H s):∀ b o,X.base.get? b=some o->s.heap.get? b=some o:=λb o e=>(I.bs b o e).1
theorem Inv.mod(I:Inv X pins σ H s):Mod X.K X.mg X.base:=I.ok.mod
theorem Inv.bY(I:Inv X pins σ H s):X.K.In s.heap:=I.ok.mod.kin.keeps I.bk
theorem Inv.lt(I:Inv X pins σ H s):X.env.locals<s.heap.objs.size:=let ⟨_,hn,_⟩:=I.loc;hn.lt
theorem Inv.sz(I:Inv X pins σ H s):X.s₀.heap.objs.size<=s.heap.objs.size:=Yw I.ok.above (ab6 I.lt)
theorem Inv.BQ(I:Inv X pins σ H s)(h:s.heap.objs.size<=a):a∉X.fs:=λhb=>by obtain⟨_,o,ho,_⟩:=I.ok.fo.mem hb;exact absurd (YJ (Yv ho) (Yw I.sz h)) (ZK _)
theorem Inv.iu(I:Inv X pins σ H s):∀ x c,X.env.cells.lookup x=some c->c≠X.env.locals:=λx c e z=>by obtain⟨v,o,ho,hd⟩:=I.cell x c e;obtain⟨m,⟨o',es,ep,b7,ix,_⟩,_⟩:=I.loc;rw[z,b7] at ho;cases ho;rw[ix] at hd;cases hd
theorem Inv.fo(I:Inv X pins σ H s):s.heap.FunFrames X.base X.outer:=by
 have all:∀ (l:List Env),(∀ b∈aU l,b∈X.fs)->X.s₀.heap.FunFrames X.base l->s.heap.FunFrames X.base l:=by
  intro l
  induction l with
  | nil=>intro _ _;trivial
  | cons env r ih =>
   intro hs hl;obtain⟨hk,⟨L,o,hf,hn,ho,hd⟩,hr⟩:=hl;have hL:L∈X.fs:=hs L (by unfold aU;rw[ZF,hf];exact aa7);obtain⟨sl,e⟩:=I.base.slot L o ho (I.ok.frf L hL) hL λz=>I.ok.exfs L z hL;exact⟨hk,⟨L,_,hf,hn,e,hd⟩,ih (λb hb=>hs b (by unfold aU;rw[ZF,hf];exact Zh _ hb)) hr⟩
 exact all X.outer (λ_ hb=>hb) I.ok.fo
theorem Inv.stack(I:Inv X pins σ H s):s.heap.FunFrames X.base X.stack:=by
 rcases I.ok.stk with e|⟨e,hf⟩
 .rw[e];exact I.fo
 .rw[e];obtain⟨m,hn,_⟩:=I.loc;refine .cons (by rw[I.ok.kind];decide) hf hn ?_ I.fo;exact Heap.get?_none_of_le (Yw I.ok.bsz I.ok.above)
theorem Inv.mw(I:Inv X pins σ H s):∀ b∈aU X.stack,b∈X.env.locals::X.fs:=λb hb=>by
 rcases I.ok.stk with e|⟨e,hf⟩
 .rw[e] at hb;exact Zh _ hb
 .rw[e] at hb;unfold aU at hb;rw[ZF,hf] at hb;exact hb
theorem Inv.nK(I:Inv X pins σ H s):∀ b∈aU X.stack,H b=none:=λb hb=>by
 rcases YK.mp (I.mw b hb) with e|hb
 .rw[e];exact I.free
 .obtain⟨_,o,ho,_⟩:=I.ok.fo.mem hb;exact I.base.free b o ho (I.ok.frf b hb) λz=>I.ok.exfs b z hb
theorem Inv.step{g':Array GenState}{t':Nat}{d':Drawn}{ch:List YC}(I:Inv X pins σ H s)
 (jf:∀ b∈ch,(b∈X.ex∨X.s₀.heap.objs.size<=b)/\b≠X.env.locals/\(∀ x c,X.env.cells.lookup x=some c->c≠b)/\∀ p∈X.pn++pins,p.1≠b)
 (keep:∀ b o,b≠X.env.locals->b∉X.fs->b∉ch->s.heap.get? b=some o->H b=none->h'.get? b=some o)
 (slot:∀ b o,b≠X.env.locals->b∈X.fs->b∉ch->s.heap.get? b=some o->H b=none->∃ sl,h'.get? b=some { o with slots:=sl }) (free:∀ b o,b∉ch->s.heap.get? b=some o->H b=none->H' b=none)
 (there:∀ b o,b∉ch->s.heap.get? b=some o->∃ o',h'.get? b=some o')
 (eV:∀ b xs,H b=some (.tup xs)->H' b=some (.tup xs)) (dR:∀ b o u,H b=some (.aQ o u)->H' b=some (.aQ o u)) (eW:∀ b ps,H b=some (.tbl ps)->∃ more,H' b=some (.tbl (ps++more)))
 (ns:∀ m,s.heap.Ns X.env.locals m->h'.Ns X.env.locals m) (ay:bK X.prog X.w H' h') (hg:adU g') :
 Inv X pins σ H' { s with heap:=h',gens:=g',drawn:=d',toks:=t' }:=by
 have nM:∀ b o,X.s₀.heap.get? b=some o->b≠X.env.locals:=λb o e=>YH (YJ (Yv e) I.ok.above);have tN:∀ b o,X.s₀.heap.get? b=some o->b∉X.ex->b∉ch:=λb o e hx hb=>by
  rcases (jf b hb).1 with z|z
  .exact hx z
  .exact absurd (YJ (Yv e) z) (ZK _)
 have cellK:∀ x c,X.env.cells.lookup x=some c->∀ v,s.heap.IsCell c v->h'.IsCell c v:=λx c e v ⟨o,ho,hd⟩=>by
  have kY:c∉ch:=λz=>(jf c z).2.2.1 x c e rfl;by_cases hc:c∈X.fs
  .obtain⟨sl,q⟩:=slot c o (I.iu x c e) hc kY ho (I.eB x c e);exact⟨_,q,hd⟩
  .exact⟨o,keep c o (I.iu x c e) hc kY ho (I.eB x c e),hd⟩
 refine⟨I.ok,I.os,hg,⟨λb o e n hb hx=>?_,λb o e n hb hx=>?_,λb o e n hx=>?_,λb o e hx=>?_,λb xs e=>eV b xs (I.base.eV b xs e),λb o xs e=>dR b o xs (I.base.dR b o xs e),λb ps e=>?_⟩,?_,λx c e=>?_,?_,λx c e=>?_,λp hp=>?_,ay,I.len⟩
 .exact keep b o (nM b o e) hb (tN b o e hx) (I.base.keep b o e n hb hx) (I.base.free b o e n hx)
 .obtain⟨sl,e1⟩:=I.base.slot b o e n hb hx;obtain⟨eE,e2⟩:=slot b _ (nM b o e) hb (tN b o e hx) e1 (I.base.free b o e n hx);exact⟨eE,e2⟩
 .obtain⟨o',e1⟩:=I.base.there b o e hx;exact free b o' (tN b o e hx) e1 (I.base.free b o e n hx)
 .obtain⟨o',e1⟩:=I.base.there b o e hx;exact there b o' (tN b o e hx) e1
 .obtain⟨m1,e1⟩:=I.base.eW b ps e;obtain⟨m2,e2⟩:=eW b _ e1;exact⟨m1++m2,by rw[e2,aeD]⟩
 .obtain⟨m,hn,hl⟩:=I.loc;refine⟨m,ns m hn,λi x v e1 e2 e3=>?_⟩;obtain⟨u,r,l⟩:=hl i x v e1 e2 e3;refine⟨u,r,?_⟩;rcases l with l|⟨k,c,e,z⟩
  .exact .inl l
  .exact .inr ⟨k,c,e,cellK x c e _ z⟩
 .obtain⟨v,z⟩:=I.cell x c e;exact⟨v,cellK x c e v z⟩
 .obtain⟨m,⟨o,_,_,ho,_⟩,_⟩:=I.loc;exact free _ o (λz=>(jf _ z).2.1 rfl) ho I.free
 .obtain⟨v,o,ho,hd⟩:=I.cell x c e;exact free c o (λz=>(jf c z).2.2.1 x c e rfl) ho (I.eB x c e)
 .obtain⟨e,n,ne,nf,d⟩:=I.pin p hp;have kY:p.1∉ch:=λz=>(jf p.1 z).2.2.2 p hp rfl;exact⟨keep p.1 p.2 ne nf kY e n,free p.1 p.2 kY e n,ne,nf,d⟩
theorem Inv.un(I:Inv X pins σ H s)(u:Un X.fs [] H H' s.heap h')(ay:bK X.prog X.w H' h'):Inv X pins σ H' { s with heap:=h',toks:=t' }:=by
 obtain⟨m,⟨o,es,ep,ho,r⟩,_⟩:=id I.loc;obtain⟨sl,hL⟩:=u.any ho I.free (by simp);exact I.step (g':=s.gens) (d':=s.drawn) (ch:=[]) (λ_ z=>nomatch z) (λb o _ hb _ e n=>u.keep b o e n hb (by simp)) (λb o _ hb _ e n=>u.slot b o e n hb (by simp)) (λb o _ e n=>u.free b o e n (by simp)) (λb o _ e=>u.there b o e (by simp)) u.eV u.dR u.eW (λm' hm=>by
  obtain⟨o',es',pP,b7,r'⟩:=hm;rw[ho] at b7;cases b7;exact⟨_,es',pP,hL,r'⟩) ay I.bare
theorem Inv.call(I:Inv X pins σ H s)(u:Un (aU X.stack) ch H H' s.heap h')(ay:bK X.prog X.w H' h')(hg:adU g')(jf:∀ b∈ch,(b∈X.ex∨X.s₀.heap.objs.size<=b)/\b≠X.env.locals/\(∀ x c,X.env.cells.lookup x=some c->c≠b)/\∀ p∈X.pn++pins,p.1≠b) :
 Inv X pins σ H' { s with heap:=h',gens:=g',drawn:=d',toks:=t' }:=by
 obtain⟨m,⟨o,es,ep,ho,r⟩,_⟩:=id I.loc;obtain⟨sl,hL⟩:=u.any ho I.free λz=>(jf _ z).2.1 rfl;exact I.step (ch:=ch) jf (λb o hL hb hc e n=>u.keep b o e n (λz=>(YK.mp (I.mw b z)).elim hL hb) hc) (λb o _ _ hc e n=>u.any e n hc) (λb o hc e n=>u.free b o e n hc) (λb o hc e=>u.there b o e hc) u.eV u.dR u.eW (λm' hm=>by
  obtain⟨o',es',pP,b7,r'⟩:=hm;rw[ho] at b7;cases b7;exact⟨_,es',pP,hL,r'⟩) ay hg
theorem Inv.turned(I:Inv X pins σ H s)(k:∀ b o,b≠it->s.heap.get? b=some o->h'.get? b=some o)(hn:H it=none)(hL:it≠X.env.locals)(h1:it∈X.ex∨X.s₀.heap.objs.size<=it)(h2:∀ x c,X.env.cells.lookup x=some c->c≠it)(h3:∀ p∈X.pn++pins,p.1≠it):Inv X pins σ H { s with heap:=h',toks:=t' }:=by
 have BR:∀ b u,H b=some u->b≠it:=λb u e z=>by rw[z,hn] at e;cases e
 refine I.step (g':=s.gens) (d':=s.drawn) (ch:=[it]) (λb hb=>?_) (λb o _ _ hc e _=>k b o (λz=>hc (by simp[z])) e) (λb o _ _ hc e _=>⟨o.slots,k b o (λz=>hc (by simp[z])) e⟩) (λ_ _ _ _ n=>n)
  (λb o hc e=>⟨o,k b o (λz=>hc (by simp[z])) e⟩) (λ_ _ e=>e) (λ_ _ _ e=>e) (λb ps e=>⟨#[],by rw[e];simp⟩) (λm hm=>?_) (λb u e=>?_) I.bare
 .have e:b=it:=by simpa using hb
  subst e;exact⟨h1,hL,h2,h3⟩
 .obtain⟨o,es,ep,ho,r⟩:=hm;exact⟨o,es,ep,k _ o (Zj hL) ho,r⟩
 .refine (I.ay b u e).fG (λc v hc q=>k c v ?_ q) (λ_ q=>q) λ_ _ q=>q;rcases hc with z|z
  .rw[z];exact BR b u e
  .exact BR c _ z
theorem Inv.tok(I:Inv X pins σ H s)(t:Nat):Inv X pins σ H { s with toks:=t }:=I.un (h':=s.heap) (t':=t) Un.refl I.ay
theorem Inv.kept(I:Inv X pins σ H s)(k:∀ b u,s.heap.get? b=some u->h'.get? b=some u):Inv X pins σ H { s with heap:=h',toks:=t' }:=I.un (Un.kept k) (I.ay.kept k)
theorem Inv.laid(I:Inv X pins σ H s)(k:∀ b u,s.heap.get? b=some u->h'.get? b=some u)(hp:s.heap.objs.size<=a)(new:br X.prog X.w (upd H a o) h' a o) :
 Inv X pins σ (upd H a o) { s with heap:=h',toks:=t' }:=I.un (Un.laid k hp (I.ay.fresh hp)) (I.ay.laid k hp new)
theorem Inv.write(I:Inv X pins σ H s)(mu:pO (H x))(he:e=x∨H e=some (.own x))(k:∀ b u,b≠e->s.heap.get? b=some u->h'.get? b=some u)(nJ:∃ u,h'.get? e=some u)(new:br X.prog X.w (upd H x o) h' x o):Inv X pins σ (upd H x o) { s with heap:=h',toks:=t' }:=I.un (Un.write mu he k nJ) (I.ay.write mu he k nJ new)
theorem Inv.weak(I:Inv X pins σ H s)(hl:σ'.length=σ.length)(w:∀ (i:Nat) v,σ'[i]?=some (some v)->σ[i]?=some (some v)):Inv X pins σ' H s :=
 ⟨I.ok,I.os,I.bare,I.base,let ⟨m,hn,pQ⟩:=I.loc;⟨m,hn,λi x v e1 e2 e3=>pQ i x v e1 (w i v e2) e3⟩,I.cell,I.free,I.eB,I.pin,I.ay,hl.trans I.len⟩
theorem Inv.pR(I:Inv X pins σ H s)(h:∀ p∈wy,s.heap.get? p.1=some p.2/\H p.1=none/\p.1≠X.env.locals/\p.1∉X.fs/\∀ v,p.2.data ≠ .cell v):Inv X wy σ H s :=
 ⟨I.ok,I.os,I.bare,I.base,I.loc,I.cell,I.free,I.eB,λp hp=>(Y3.mp hp).elim (λz=>I.pin p (Z4 _ z)) (h p),I.ay,I.len⟩
theorem wz{N:List Str}(hN:N.Nodup){i j:Nat}{x:Str}(a:N[i]?=some x)(b:N[j]?=some x):i=j:=by obtain⟨h1,e1⟩:=Yx.mp a;obtain⟨h2,e2⟩:=Yx.mp b;exact (List.getElem_inj hN).mp (e1.trans e2.symm)
theorem KG(I:Inv X pins σ H s)(hN:X.N.Nodup)(hi:X.N[i]?=some x)(hx:Loc X.env.scope x)(r:RelV v u)(h:∀ s',Inv X pins (σ.set i (some v)) H s'->(∃ a,Heap.SameBut a s.heap s'.heap/\(a=X.env.locals∨X.env.cells.lookup x=some a))->Q () s')(hf:X.fn x=true∨X.env.scope.names.lookup x=some .local:=by first|exact .inl rfl|exact .inr rfl|assumption):YL M A (storeName X.env x u) Q E s:=by
 obtain⟨m,hn,hl⟩:=id I.loc;have wA:(X.env.scope.kind == .class || (X.env.scope.kind == .module && X.env.locals != X.env.globals))=false:=by rw[I.ok.kind];rfl
 have BS:i<σ.length:=by rw[I.len];exact (Yx.mp hi).1
 have iu:=I.iu;have tracked:∀ {a:YC} {h':aaW},(∃ o,s.heap.get? a=some o/\H a=none)->Heap.SameBut a s.heap h'->bK X.prog X.w H h':=λ{a h'} ha hs b ob e=>by
  obtain⟨_,_,hfree⟩:=ha;refine (I.ay b ob e).fG (λc w' hc q=>(hs.2 c ?_).trans q) (λ_ q=>q) λ_ _ q=>q;rintro rfl;rcases hc with rfl|hc
  .rw[hfree] at e;cases e
  .rw[hfree] at hc;cases hc
 rcases hx with hk|hk
 .refine wpAny_storeName_local hk hn (λh' jg hs=>?_) wA;obtain⟨oL,_,_,BU,_⟩:=id hn;refine h _ ⟨I.ok,I.os,I.bare,⟨λb o e n hb hx=>?_,λb o e n hb hx=>?_,I.base.free,λb o e hx=>?_,I.base.eV,I.base.dR,I.base.eW⟩,⟨_,jg,λj y v' e1 e2 e3=>?_⟩,λy c e=>?_,I.free,I.eB,λp hp=>?_,tracked ⟨oL,BU,I.free⟩ hs,by simpa using I.len⟩ ⟨_,hs,.inl rfl⟩
  .exact (hs.2 b (YH (YJ (Yv e) I.ok.above))).trans (I.base.keep b o e n hb hx)
  .obtain⟨sl,e1⟩:=I.base.slot b o e n hb hx;exact⟨sl,(hs.2 b (YH (YJ (Yv e) I.ok.above))).trans e1⟩
  .obtain⟨o',e1⟩:=I.base.there b o e hx;exact⟨o',(hs.2 b (YH (YJ (Yv e) I.ok.above))).trans e1⟩
  .by_cases hj:j=i
   .subst hj;rw[hi] at e1;cases e1;rw[abT BS] at e2;cases e2;exact⟨u,r,.inl ⟨hk,by simp⟩⟩
   .rw[acn (Zj hj)] at e2;obtain⟨u',r',q⟩:=hl j y v' e1 e2 e3;refine⟨u',r',?_⟩;rcases q with ⟨k,e⟩|⟨k,c,e,z⟩
    .refine .inl ⟨k,?_⟩;have:y≠x:=λe=>hj (wz hN e1 (e ▸ hi));simp[this,e]
    .exact .inr ⟨k,c,e,z.sameBut hs (iu y c e)⟩
  .obtain⟨w',z⟩:=I.cell y c e;exact⟨w',z.sameBut hs (iu y c e)⟩
  .obtain⟨e,n,ne,nf,d⟩:=I.pin p hp;exact⟨(hs.2 p.1 ne).trans e,n,ne,nf,d⟩
 .have wB:X.fn x=true:=by
   rcases hf with z|z
   .exact z
   .rw[z] at hk;cases hk
  obtain⟨c,hc⟩:=I.ok.has x (.inl hk);obtain⟨w',z⟩:=I.cell x c hc;refine wpAny_storeName_cell I.ok.kind hk hc z (λh' j4 hs=>?_);obtain⟨oc,hoc,hocd⟩:=id z;refine h { s with heap:=h' } ⟨I.ok,I.os,I.bare,⟨λb o e n hb hx=>?_,λb o e n hb hx=>?_,I.base.free,λb o e hx=>?_,I.base.eV,I.base.dR,I.base.eW⟩,⟨m,hn.sameBut hs (Zj (iu x c hc)),λj y v' e1 e2 e3=>?_⟩,λy c' e=>?_,I.free,I.eB,λp hp=>?_,tracked ⟨oc,hoc,I.eB x c hc⟩ hs,by simpa using I.len⟩ ⟨c,hs,.inr hc⟩
  .exact (hs.2 b (YH (YJ (Yv e) (I.ok.cab x c wB hc)))).trans (I.base.keep b o e n hb hx)
  .obtain⟨sl,e1⟩:=I.base.slot b o e n hb hx;exact⟨sl,(hs.2 b (YH (YJ (Yv e) (I.ok.cab x c wB hc)))).trans e1⟩
  .obtain⟨o',e1⟩:=I.base.there b o e hx;exact⟨o',(hs.2 b (YH (YJ (Yv e) (I.ok.cab x c wB hc)))).trans e1⟩
  .by_cases hj:j=i
   .subst hj;rw[hi] at e1;cases e1;rw[abT BS] at e2;cases e2;exact⟨u,r,.inr ⟨.inl hk,c,hc,j4⟩⟩
   .rw[acn (Zj hj)] at e2;obtain⟨u',r',q⟩:=hl j y v' e1 e2 e3;refine⟨u',r',?_⟩;rcases q with q|⟨k,c',e,z'⟩
    .exact .inl q
    .refine .inr ⟨k,c',e,z'.sameBut hs ?_⟩;rintro rfl;exact hj (wz hN e1 (I.ok.inj _ _ _ e hc ▸ hi))
  .by_cases tO:c'=c
   .subst tO;exact⟨_,j4⟩
   .obtain⟨w2,z2⟩:=I.cell y c' e;exact⟨w2,z2.sameBut hs tO⟩
  .obtain⟨e,n,ne,nf,d⟩:=I.pin p hp;refine⟨(hs.2 p.1 ?_).trans e,n,ne,nf,d⟩;intro q;rw[q,hoc] at e;have q':oc=p.2:=Option.some.inj e;exact d w' (by rw[<- q'];exact hocd)
theorem wC(I:Inv X pins σ H s)(hN:X.N.Nodup)(hi:X.N[i]?=some x)(hx:Loc X.env.scope x)(r:RelV v u)(h:∀ s',Inv X pins (σ.set i (some v)) H s'->Q () s')(hf:X.fn x=true∨X.env.scope.names.lookup x=some .local:=by first|exact .inl rfl|exact .inr rfl|assumption):YL M A (storeName X.env x u) Q E s :=
 KG I hN hi hx r (λs' I' _=>h s' I') hf
theorem Inv.wD(I:Inv X pins σ H s)(ho:s'.os=s.os)(u:Un (aU X.stack) ch H H' s.heap s'.heap)(ay:bK X.prog X.w H' s'.heap)(hg:adU s'.gens)(jf:∀ b∈ch,(b∈X.ex∨X.s₀.heap.objs.size<=b)/\b≠X.env.locals/\(∀ x c,X.env.cells.lookup x=some c->c≠b)/\∀ p∈X.pn++pins,p.1≠b):Inv X pins σ H' s':=by obtain⟨h',g',d',t',o'⟩:=s';have e:o'=s.os:=ho;subst e;exact I.call (g':=g') (t':=t') (d':=d') u ay hg jf
end
abbrev XK:=Yy->Option YC->Hp->Prop
abbrev St:=List (Option V)
abbrev VK:=V->Hp->Prop
abbrev TE:=St->Hp->VK->Prop
abbrev TT:=St->Hp->(Bool->Hp->Prop)->Prop
abbrev TA:=St->Hp->(List V->Hp->Prop)->Prop
structure Ends where
 nx:St->Hp->Prop
 rt:VK
 bk:St->Hp->Prop:=λ_ _=>False
 ct:St->Hp->Prop:=λ_ _=>False
abbrev TS:=Ends->St->Hp->Prop
def EP(X:Cx)(pins:List (YC × Obj))(σ:St)(Q:VK)(u:Yy)(s':YB):Prop:=∃ v H',Inv X pins σ H' s'/\RelV v u/\Q v H'
def TP(X:Cx)(pins:List (YC × Obj))(σ:St)(Q:Bool->Hp->Prop)(b:Bool)(s':YB):Prop:=∃ H',Inv X pins σ H' s'/\Q b H'
def AP(X:Cx)(pins:List (YC × Obj))(σ:St)(Q:List V->Hp->Prop)(us:List Yy)(s':YB):Prop:=∃ vs H',Inv X pins σ H' s'/\Vals vs us/\Q vs H'
def SP(X:Cx)(pins:List (YC × Obj))(D:Ends)(f:Flow)(s':YB):Prop :=
 match f with
 | .next=>∃ σ' H',Inv X pins σ' H' s'/\D.nx σ' H'
 | .brk=>∃ σ' H',Inv X pins σ' H' s'/\D.bk σ' H'
 | .cont=>∃ σ' H',Inv X pins σ' H' s'/\D.ct σ' H'
 | .ret u=>∃ v σ' H',Inv X pins σ' H' s'/\RelV v u/\D.rt v H'
def PE(X:Cx)(e:acg)(t:TE):Prop :=
 ∀ (pins:List (YC × Obj)) (s:YB) (σ:St) (H:Hp) (Q:VK),Inv X pins σ H s->t σ H Q->YL (model X.prog X.w) X.A (eval e X.env) (EP X pins σ Q) X.xe s
def PT(X:Cx)(e:acg)(t:TT):Prop :=
 ∀ (pins:List (YC × Obj)) (s:YB) (σ:St) (H:Hp) (Q:Bool->Hp->Prop),Inv X pins σ H s->t σ H Q->YL (model X.prog X.w) X.A (agr e X.env (eval e X.env)) (TP X pins σ Q) X.xe s
def PW(X:Cx)(e:acg)(t:TT):Prop :=
 ∀ (whole:Sem Yy) (pins:List (YC × Obj)) (s:YB) (σ:St) (H:Hp) (Q:Bool->Hp->Prop),Inv X pins σ H s->t σ H Q->YL (model X.prog X.w) X.A (agr e X.env whole) (TP X pins σ Q) X.xe s
theorem PW.pt(h:PW X e t):PT X e t:=h _
def PA(X:Cx)(es:List acg)(t:TA):Prop :=
 ∀ (pos:Pos) (pins:List (YC × Obj)) (s:YB) (σ:St) (H:Hp) (Q:List V->Hp->Prop),Inv X pins σ H s->t σ H Q->YL (model X.prog X.w) X.A (spliced (aap pos (YQ es X.env))) (AP X pins σ Q) X.xe s
def PS(X:Cx)(st:aaj)(t:TS):Prop :=
 ∀ (pins:List (YC × Obj)) (s:YB) (σ:St) (H:Hp) (D:Ends),Inv X pins σ H s->t D σ H->YL (model X.prog X.w) X.A (exec st X.env) (SP X pins D) X.xe s
def aM(X:Cx)(st:List aaj)(t:TS):Prop :=
 ∀ (pins:List (YC × Obj)) (s:YB) (σ:St) (H:Hp) (D:Ends),Inv X pins σ H s->t D σ H->YL (model X.prog X.w) X.A (execs st X.env) (SP X pins D) X.xe s
theorem aB(h:YL M A t Q E s)(hQ:∀ a s,Q a s->Q' a s):YL M A t Q' E s:=ZD h hQ λ_ _ x=>x
section
variable{X:Cx}
def wF(i:Nat):TE:=λσ H Q=>∃ v,σ[i]?=some (some v)/\Q v H
def tC(v:V):TE:=λ_ H Q=>Q v H
theorem KH(hN:X.N[i]?=some x)(hv:tM X.env.scope x)(hd:(x == ("__debug__" : Str))=false:=by decide)(fq:(x == ("__classdict__" : Str))=false:=by decide):PE X (.Name x pos) (wF i):=by
 intro pins s σ H Q I h;obtain⟨v,e,h⟩:=h;obtain⟨m,hn,hl⟩:=I.loc;obtain⟨u,r,l⟩:=hl i x v hN e hv;have fin:EP X pins σ Q u s:=⟨v,H,I,r,h⟩
 rcases l with ⟨hk,hm⟩|⟨hk,c,hc,pS⟩
 .exact af6 (wpAny_loadName_local I.ok.kind hk hn hm fin) hd
 .rcases hk with hk|hk
  .exact af6 (wpAny_loadName_cell I.ok.kind hk hc pS fin) hd
  .exact af6 (wpAny_loadName_free I.ok.kind hk hc pS fin fq) hd
theorem af:PE X (.Constant (.int i) j pos) (tC (.int i)):=λ_ _ _ H _ I h=>wpAny_Constant_int ⟨.int i,H,I.tok _,⟨_,rfl⟩,h⟩
theorem cg:PE X (.Constant (.bool b) j pos) (tC (.bl b)):=λ_ _ _ H _ I h=>Constant_bool ⟨.bl b,H,I,rfl,h⟩
theorem bH:PE X (.Constant .none j pos) (tC .non):=λ_ _ _ H _ I h=>aeE ⟨.non,H,I,rfl,h⟩
theorem ba:PE X (.Constant (.str x) j pos) (tC (.str x)):=λ_ _ _ H _ I h=>Calls.Constant_str ⟨.str x,H,I.tok _,⟨_,rfl⟩,h⟩
def Gl(X:Cx)(x:Str):Prop:=X.env.kindOf x=some .globalImplicit
theorem pU(I:Inv X pins σ H s)(hg:Gl X x)(hm:X.mg x=some u)(h:Q u s)(hd:(x == ("__debug__" : Str))=false:=by decide):YL (model X.prog X.w) X.A (eval (.Name x pos) X.env) Q E s :=
 acJ I.ok.kind hg (Calls.loadGlobal_global (by rw[I.ok.glob];exact I.mod.glob.keeps I.bk) hm h) hd
theorem eX(I:Inv X pins σ H s)(hg:Gl X x)(hm:X.mg x=none)(hv:Zf x=some u)(h:Q u s)(hn:x ≠ "__name__" := by decide)(hd:(x == ("__debug__" : Str))=false:=by decide):YL (model X.prog X.w) X.A (eval (.Name x pos) X.env) Q E s:=by obtain⟨mb,h1,h2⟩:=I.mod.blt;exact acJ I.ok.kind hg (Calls.loadGlobal_builtin (by rw[I.ok.glob];exact I.mod.glob.keeps I.bk) hm (by rw[I.ok.blt];exact h1.keeps I.bk) ((h2 x hn).trans hv) h) hd
theorem tP(hg:Gl X x)(hm:X.mg x=some u)(r:RelV v u)(hd:(x == ("__debug__" : Str))=false:=by decide):PE X (.Name x pos) (tC v) :=
 λ_ _ _ H _ I h=>pU I hg hm ⟨v,H,I,r,h⟩ hd
theorem j5(hg:Gl X x)(hm:X.mg x=none)(hv:Zf x=some u)(r:RelV v u)(hn:x ≠ "__name__" := by decide)(hd:(x == ("__debug__" : Str))=false:=by decide):PE X (.Name x pos) (tC v) :=
 λ_ _ _ H _ I h=>eX I hg hm hv ⟨v,H,I,r,h⟩ hn hd
variable{a b:acg}{ta tb:TE}{pos:Pos}
def PC(X:Cx)(op:CmpOp)(a b:acg)(t:TE):Prop :=
 ∀ (pins:List (YC × Obj)) (s:YB) (σ:St) (H:Hp) (Q:VK),Inv X pins σ H s->t σ H Q ->
  YL (model X.prog X.w) X.A (eval a X.env) (λv s₁=>YL (model X.prog X.w) X.A (eval b X.env) (λu s₂=>YL (model X.prog X.w) X.A (Zw op v u) (EP X pins σ Q) X.xe s₂) X.xe s₁) X.xe s
theorem BV(b:acg)(h:op ≠ .In)(h2:op ≠ .NotIn):aaG op b=false:=by
 have e1:(op == CmpOp.In)=false:=by cases op<;>first|rfl|exact absurd rfl h
 have e2:(op == CmpOp.NotIn)=false:=by cases op<;>first|rfl|exact absurd rfl h2
 cases b<;>simp[aaG,e1,e2]
def BW(ta:TE):TE:=λσ H Q=>ta σ H λx H1=>Q (.bl (decide (x = .non))) H1
def BX(ta:TE):TE:=λσ H Q=>ta σ H λx H1=>Q (.bl (!decide (x = .non))) H1
theorem RelV.BY(r:RelV x v):(v == Value.none)=decide (x = .non):=by
 cases x with
 | non=>cases r;rfl
 | bl _=>cases r;rfl
 | int _=>obtain⟨t,rfl⟩:=r;rfl
 | str _=>obtain⟨t,rfl⟩:=r;rfl
 | byt _=>obtain⟨t,rfl⟩:=r;rfl
 | flt _=>obtain⟨t,rfl⟩:=r;rfl
 | ref _=>cases r;rfl
 | ty _=>cases r;rfl
theorem pV(ha:PE X a ta):PC X .Is a (.Constant .none j pos') (BW ta):=by intro pins s σ H Q I h;refine aB (ha pins s σ H _ I h) λv s1 zq=>?_;obtain⟨x,H1,I1,r1,q1⟩:=zq;exact aeE (is_none_gen ⟨.bl _,H1,I1,by rw[r1.BY];rfl,q1⟩)
theorem pW(ha:PE X a ta):PC X .IsNot a (.Constant .none j pos') (BX ta):=by intro pins s σ H Q I h;refine aB (ha pins s σ H _ I h) λv s1 zq=>?_;obtain⟨x,H1,I1,r1,q1⟩:=zq;exact aeE (isnot_none_gen ⟨.bl _,H1,I1,by rw[r1.BY];rfl,q1⟩)
def tB(t:TE):TT:=λσ H Q=>t σ H λx H1=>∃ c,x = .bl c/\Q c H1
theorem kZ(h:PC X op a b t)(h1:aaG op b=false:=by first|exact BV _ (by decide) (by decide)|rfl):PE X (.Compare a [op] [b] pos) t:=λpins s σ H Q I hw=>wpAny_Compare1 (h pins s σ H Q I hw) h1
theorem tQ(h:PC X op a b t)(h1:aaG op b=false:=by first|exact BV _ (by decide) (by decide)|rfl):PT X (.Compare a [op] [b] pos) (tB t):=by intro pins s σ H Q I hw;refine adV (aB (h pins s σ H _ I hw) λv s1 h1=>aB h1 λu s2 h2=>aB h2 λc s3 zq=>?_) h1;obtain⟨x,H1,I1,r1,q1⟩:=zq;obtain⟨d,rfl,q⟩:=q1;cases r1;exact Zg ⟨H1,I1,q⟩
theorem KI(h:PE X e t)(he:∀ whole,agr e X.env whole=(do let v <- whole;afB e.pos;holding [v] (truthy v)):=by intro _;rfl):PT X e (tB t):=by intro pins s σ H Q I hw;refine isTrue_plain (aB (h pins s σ H _ I hw) λv s1 zq=>?_) (he _);obtain⟨x,H1,I1,r1,q1⟩:=zq;obtain⟨d,rfl,q⟩:=q1;cases r1;exact Zg ⟨H1,I1,q⟩
variable{tA tR:TT}{rest:List acg}
def BZ(t u:TT):TT:=λσ H Q=>t σ H λc H1=>if c=true then u σ H1 Q else Q false H1
def B0(t u:TT):TT:=λσ H Q=>t σ H λc H1=>if c=true then Q true H1 else u σ H1 Q
def B1(t:TT):TT:=λσ H Q=>t σ H λc H1=>Q (!c) H1
theorem gI(ha:PT X a tA):PW X (.BoolOp .And [a] pos) tA:=by
 intro wh pins s σ H Q I h;refine isTrue_and (aB (ha pins s σ H Q I h) λc s1 e=>?_);cases c with
 | true=>exact isTrue_and_nil e
 | false=>exact e
theorem dJ(ha:PT X a tA):PW X (.BoolOp .Or [a] pos) tA:=by
 intro wh pins s σ H Q I h;refine isTrue_or (aB (ha pins s σ H Q I h) λc s1 e=>?_);cases c with
 | false=>exact isTrue_or_nil e
 | true=>exact e
theorem gh(ha:PT X a tA)(hb:PW X (.BoolOp .And (b::rest) pos) tR):PW X (.BoolOp .And (a::b::rest) pos) (BZ tA tR):=by
 intro wh pins s σ H Q I h;refine isTrue_and (aB (ha pins s σ H _ I h) λc s1 zq=>?_);obtain⟨H1,I1,q1⟩:=zq;cases c with
 | true=>exact hb wh pins s1 σ H1 Q I1 q1
 | false=>exact⟨H1,I1,q1⟩
theorem bZ(ha:PT X a tA)(hb:PW X (.BoolOp .Or (b::rest) pos) tR):PW X (.BoolOp .Or (a::b::rest) pos) (B0 tA tR):=by
 intro wh pins s σ H Q I h;refine isTrue_or (aB (ha pins s σ H _ I h) λc s1 zq=>?_);obtain⟨H1,I1,q1⟩:=zq;cases c with
 | true=>exact⟨H1,I1,q1⟩
 | false=>exact hb wh pins s1 σ H1 Q I1 q1
theorem bR(ha:PT X a tA):PT X (.UnaryOp .Not a pos) (B1 tA):=by intro pins s σ H Q I h;exact isTrue_not (ha pins s σ H (λc H1=>Q (!c) H1) I h)
def B2(ta tb:TE):TE:=λσ H Q=>ta σ H λx H1=>∃ c,x = .bl c/\if c=true then tb σ H1 Q else Q (.bl false) H1
def B3(ta tb:TE):TE:=λσ H Q=>ta σ H λx H1=>∃ c,x = .bl c/\if c=true then Q (.bl true) H1 else tb σ H1 Q
def B4(ta:TE):TE:=λσ H Q=>ta σ H λx H1=>∃ c,x = .bl c/\Q (.bl (!c)) H1
theorem ft(h:PE X a t):PE X (.BoolOp op [a] pos) t:=λpins s σ H Q I hw=>BoolOp_one (h pins s σ H Q I hw)
theorem KJ(ha:PE X a ta)(hb:PE X (.BoolOp .And (b::rest) pos) tb):PE X (.BoolOp .And (a::b::rest) pos) (B2 ta tb):=by
 intro pins s σ H Q I h;refine BoolOp_and (aB (ha pins s σ H _ I h) λv s1 zq=>?_);obtain⟨x,H1,I1,r1,q1⟩:=zq;obtain⟨c,rfl,q1⟩:=q1;cases r1;refine Zg ?_;cases c with
 | true=>exact hb pins s1 σ H1 Q I1 q1
 | false=>exact⟨.bl false,H1,I1,rfl,q1⟩
theorem KL(ha:PE X a ta)(hb:PE X (.BoolOp .Or (b::rest) pos) tb):PE X (.BoolOp .Or (a::b::rest) pos) (B3 ta tb):=by
 intro pins s σ H Q I h;refine BoolOp_or (aB (ha pins s σ H _ I h) λv s1 zq=>?_);obtain⟨x,H1,I1,r1,q1⟩:=zq;obtain⟨c,rfl,q1⟩:=q1;cases r1;refine Zg ?_;cases c with
 | false=>exact hb pins s1 σ H1 Q I1 q1
 | true=>exact⟨.bl true,H1,I1,rfl,q1⟩
theorem KN(ha:PE X a ta):PE X (.UnaryOp .Not a pos) (B4 ta):=by intro pins s σ H Q I h;refine UnaryOp_ (aB (ha pins s σ H _ I h) λv s1 zq=>?_);obtain⟨x,H1,I1,r1,q1⟩:=zq;obtain⟨c,rfl,q1⟩:=q1;cases r1;exact not_of (Zg ⟨.bl (!c),H1,I1,rfl,q1⟩)
def B5(t:TT)(ta tb:TE):TE:=λσ H Q=>t σ H λc H1=>if c=true then ta σ H1 Q else tb σ H1 Q
theorem nN(hc:PT X c tA)(ha:PE X a ta)(hb:PE X b tb):PE X (.IfExp c a b pos) (B5 tA ta tb):=by
 intro pins s σ H Q I h;refine wpAny_IfExp (aB (hc pins s σ H _ I h) λd s1 zq=>?_);obtain⟨H1,I1,q1⟩:=zq;cases d with
 | true=>exact ha pins s1 σ H1 Q I1 q1
 | false=>exact hb pins s1 σ H1 Q I1 q1
end
def ai(K:Yp)(H:Hp)(a:YC)(xs:List V):Prop :=
 Rd H a (.lst xs) ∨
  ∃ (o:Obj) (ao:Array Yy) (n:Nat),K.lookup a=some o/\o.cls = .type "list" /\ o.dict=none/\o.data = .seq ao n/\ao.size<=YR/\Vals xs ao.toList
def ah(K:Yp)(H:Hp)(a:YC)(xs:List V):Prop :=
 Rd H a (.tup xs) ∨
  ∃ (o:Obj) (ao:Array Yy) (n:Nat),K.lookup a=some o/\o.cls = .type "tuple" /\ o.data = .seq ao n/\ao.size<=YR/\Vals xs ao.toList
noncomputable def KO:Yy->Option V
 | .none=>some .non
 | .bool b=>some (.bl b)
 | .int i _=>some (.int i)
 | .str x _=>some (.str x)
 | .bytes b _=>some (.byt b)
 | .float b _=>some (.flt b)
 | .ref a=>some (.ref a)
 | .type n=>some (.ty n)
 | _=>none
theorem RelV.abs(r:RelV x u):KO u=some x:=by
 cases x with
 | non=>cases r;rfl
 | bl _=>cases r;rfl
 | int _=>obtain⟨t,rfl⟩:=r;rfl
 | str _=>obtain⟨t,rfl⟩:=r;rfl
 | byt _=>obtain⟨t,rfl⟩:=r;rfl
 | flt _=>obtain⟨t,rfl⟩:=r;rfl
 | ref _=>cases r;rfl
 | ty _=>cases r;rfl
theorem RelV.inj(r:RelV x u)(q:RelV y u):x=y:=Option.some.inj (r.abs.symm.trans q.abs)
theorem Vals.inj:∀ {xs ys:List V} {us:List Yy},Vals xs us->Vals ys us->xs=ys
 | _,_,_,.nil,.nil=>rfl
 | _,_,_,.cons r t,.cons r' t'=>by rw[r.inj r',Vals.inj t t']
section
theorem ai.of{K:Yp}(h:H a=some (.lst xs)):ai K H a xs:=.inl (.inl h)
theorem ah.of{K:Yp}(h:H a=some (.tup xs)):ah K H a xs:=.inl (.inl h)
theorem Inv.list(I:Inv X pins σ H s)(h:ai X.K H a xs):∃ ao:List Yy,Vals xs ao/\PlainL s.heap a ao.toArray/\xs.length<=YR:=by
 rcases h with h|⟨o,ao,n,hk,hc,hd,hs,hz,r⟩
 .obtain⟨z,ao,n,r,e⟩:=h.ok I.ay;exact⟨ao,r,⟨_,n,e,rfl,rfl,rfl⟩,z⟩
 .refine⟨ao.toList,r,⟨o,n,I.bY a o hk,hc,hd,by simpa using hs⟩,?_⟩;have e:=r.length;simp only[aaY] at e;omega
theorem Inv.tuple(I:Inv X pins σ H s)(h:ah X.K H a xs):∃ ao:List Yy,Vals xs ao/\IsTup s.heap a ao.toArray/\xs.length<=YR:=by
 rcases h with h|⟨o,ao,n,hk,hc,hs,hz,r⟩
 .obtain⟨z,ao,r,p⟩:=h.ok I.ay;exact⟨ao,r,p,z⟩
 .refine⟨ao.toList,r,⟨o,I.bY a o hk,hc,n,by simpa using hs⟩,?_⟩;have e:=r.length;simp only[aaY] at e;omega
theorem Inv.pX(I:Inv X pins σ H s)(h:ai X.K H a xs)(h':ai X.K H a ys):xs=ys:=by
 obtain⟨ao,r,⟨o,n,e,_,_,d⟩,_⟩:=I.list h;obtain⟨its',r',⟨o',n',e',_,_,d'⟩,_⟩:=I.list h';rw[e] at e';cases e';rw[d] at d';injection d' with d1 _;have:ao=its':=by simpa using congrArg afk d1
 subst this;exact r.inj r'
theorem Inv.KP(I:Inv X pins σ H s)(h:ah X.K H a xs)(h':ah X.K H a ys):xs=ys:=by
 obtain⟨ao,r,⟨o,e,_,n,d⟩,_⟩:=I.tuple h;obtain⟨its',r',⟨o',e',_,n',d'⟩,_⟩:=I.tuple h';rw[e] at e';cases e';rw[d] at d';injection d' with d1 _;have:ao=its':=by simpa using congrArg afk d1
 subst this;exact r.inj r'
end
noncomputable abbrev Cx.jh(X:Cx)(E:Yy->YB->Prop):Cx:={ X with xe:=E }
noncomputable abbrev Cx.nO(X:Cx):Cx:=X.jh λ_ _=>False
theorem Cx.Ok.jh{X:Cx}(ok:X.Ok)(E:Yy->YB->Prop):(X.jh E).Ok :=
 ⟨ok.mod,ok.kind,ok.glob,ok.blt,ok.above,ok.inj,ok.has,ok.cab,ok.hd,ok.frames,ok.stk,ok.exf,ok.bs,ok.bsz,ok.noex,ok.exfs,ok.fo,ok.frf⟩
theorem Cx.Ok.k6{X:Cx}{E:Yy->YB->Prop}(ok:(X.jh E).Ok):X.Ok :=
 ⟨ok.mod,ok.kind,ok.glob,ok.blt,ok.above,ok.inj,ok.has,ok.cab,ok.hd,ok.frames,ok.stk,ok.exf,ok.bs,ok.bsz,ok.noex,ok.exfs,ok.fo,ok.frf⟩
section
theorem Inv.jh(I:Inv X pins σ H s)(E:Yy->YB->Prop):Inv (X.jh E) pins σ H s:=⟨I.ok.jh E,I.os,I.bare,I.base,I.loc,I.cell,I.free,I.eB,I.pin,I.ay,I.len⟩
theorem Inv.k6(I:Inv (X.jh E) pins σ H s):Inv X pins σ H s:=⟨I.ok.k6,I.os,I.bare,I.base,I.loc,I.cell,I.free,I.eB,I.pin,I.ay,I.len⟩
theorem SP.k6(h:SP (X.jh E) pins D f s'):SP X pins D f s':=by
 cases f with
 | next=>obtain⟨σ',H',I,q⟩:=h;exact⟨σ',H',I.k6,q⟩
 | brk=>obtain⟨σ',H',I,q⟩:=h;exact⟨σ',H',I.k6,q⟩
 | cont=>obtain⟨σ',H',I,q⟩:=h;exact⟨σ',H',I.k6,q⟩
 | ret u=>obtain⟨v,σ',H',I,r,q⟩:=h;exact⟨v,σ',H',I.k6,r,q⟩
theorem aM.nO{st:List aaj}{t:TS}(h:aM X.nO st t):aM X st t:=λpins s σ H D I hw =>
 ZD (h pins s σ H D (I.jh _) hw) (λ_ _ q=>q.k6) λ_ _ z=>aaE z
end
section
variable{X:Cx}{st:aaj}{rest:List aaj}{t u:TS}{e:acg}{te:TE}{pos:Pos}
def B6:TS:=λD σ H=>D.nx σ H
def tS(t u:TS):TS:=λD σ H=>t { D with nx:=u D } σ H
theorem aH:aM X [] B6:=λ_ _ σ H _ I h=>acq ⟨σ,H,I,h⟩
theorem ar(h1:PS X st t)(h2:aM X rest u):aM X (st::rest) (tS t u):=by
 intro pins s σ H D I h;refine afp (aB (h1 pins s σ H { D with nx:=u D } I h) λf s1 q=>?_);cases f with
 | next =>
  obtain⟨σ',H',I',q⟩:=q;exact h2 pins s1 σ' H' D I' q
 | ret v=>exact q
 | brk=>exact q
 | cont=>exact q
theorem aw(h1:PS X st t):aM X [st] t:=by
 intro pins s σ H D I h;refine afp (aB (h1 pins s σ H D I h) λf s1 q=>?_);cases f with
 | next=>exact acq q
 | ret v=>exact q
 | brk=>exact q
 | cont=>exact q
theorem Inv.quiet(I:Inv X pins σ H s):interactive X.env=false:=by simp[interactive,I.ok.kind]
def B7(te:TE):TS:=λD σ H=>te σ H λ_ H1=>D.nx σ H1
theorem dS(he:PE X e te)(hs:acr e none pos.line X.env=pure false:=by rfl):PS X (.Expr e pos) (B7 te):=by intro pins s σ H D I h;exact wpAny_Expr_any (aB (he pins s σ H _ I h) λv s1 ⟨x,H1,I1,r1,q1⟩=>⟨σ,H1,I1,q1⟩) I.quiet hs
def B8(te:TE):TS:=λD σ H=>te σ H D.rt
theorem aA(he:PE X e te):PS X (.Return (some e) pos) (B8 te):=by intro pins s σ H D I h;exact wpAny_Return_some (aB (he pins s σ H _ I h) λv s1 ⟨x,H1,I1,r1,q1⟩=>⟨x,σ,H1,I1,r1,q1⟩)
def B9(c:TT)(t u:TS):TS:=λD σ H=>c σ H λb H1=>if b=true then t D σ H1 else u D σ H1
theorem aI(hc:PT X c tc)(ha:aM X a t)(hb:aM X b u):PS X (.If c a b pos) (B9 tc t u):=by
 intro pins s σ H D I h;refine wpAny_If (aB (hc pins s σ H _ I h) λd s1 zq=>?_);obtain⟨H1,I1,q1⟩:=zq;cases d with
 | true=>exact ha pins s1 σ H1 D I1 q1
 | false=>exact hb pins s1 σ H1 D I1 q1
end
abbrev TG:=V->St->Hp->(St->Hp->Prop)->Prop
abbrev pY:=List V->St->Hp->(St->Hp->Prop)->Prop
def PG(X:Cx)(target:acg)(t:TG):Prop :=
 ∀ (pins:List (YC × Obj)) (s:YB) (σ:St) (H:Hp) (v:V) (u:Yy) (Q:St->Hp->Prop),Inv X pins σ H s->RelV v u->t v σ H Q ->
  YL (model X.prog X.w) X.A (assign target X.env u) (λ_ s'=>∃ σ' H',Inv X pins σ' H' s'/\Q σ' H') X.xe s
def tT(X:Cx)(ts:List acg)(t:pY):Prop :=
 ∀ (pins:List (YC × Obj)) (s:YB) (σ:St) (H:Hp) (vs:List V) (us:List Yy) (Q:St->Hp->Prop),Inv X pins σ H s->Vals vs us->t vs σ H Q ->
  YL (model X.prog X.w) X.A (assignInOrder ((ac7 ts X.env).map (·.2)) us) (λ_ s'=>∃ σ' H',Inv X pins σ' H' s'/\Q σ' H') X.xe s
abbrev Ca:=V->V->V->Hp->(Hp->Prop)->Prop
def Cb(X:Cx)(t:Ca):Prop :=
 ∀ (pins:List (YC × Obj)) (s:YB) (σ:St) (H:Hp) (o i v:V) (ov iv u:Yy) (Q:Hp->Prop),Inv X pins σ H s->RelV o ov->RelV i iv->RelV v u->t o i v H Q ->
  YL (model X.prog X.w) X.A (setItem ov iv u) (λ_ s'=>∃ H',Inv X pins σ H' s'/\Q H') X.xe s
section
def cj(i:Nat):TG:=λv σ H Q=>Q (σ.set i (some v)) H
theorem gi(hN:X.N.Nodup)(hi:X.N[i]?=some x)(hx:Loc X.env.scope x)(hf:X.fn x=true∨X.env.scope.names.lookup x=some .local:=by first|exact .inl rfl|exact .inr rfl|assumption):PG X (.Name x pos) (cj i):=by intro pins s σ H v u Q I r h;exact wpAny_assign_Name (wC I hN hi hx r (λs' I'=>⟨_,H,I',h⟩) hf)
def ji:pY:=λvs σ H Q=>vs=[]/\Q σ H
def cR(t:TG)(u:pY):pY:=λvs σ H Q=>∃ v r,vs=v::r/\t v σ H λσ' H'=>u r σ' H' Q
theorem j6:tT X [] ji:=by intro pins s σ H vs us Q I r h;obtain⟨e,h⟩:=h;subst e;cases r;exact assignInOrder_nil ⟨σ,H,I,h⟩
theorem dC(h1:PG X e t)(h2:tT X es u)(hs:(ac7 (e::es) X.env).map (·.2)=assign e X.env::(ac7 es X.env).map (·.2):=by rfl):tT X (e::es) (cR t u):=by
 intro pins s σ H vs us Q I r h;obtain⟨v,vr,e1,h⟩:=h;subst e1;cases r with
 | cons r rr =>
  rw[hs];refine assignInOrder_cons (aB (h1 pins s σ H _ _ _ I r h) λ_ s1 zq=>?_);obtain⟨σ1,H1,I1,q1⟩:=zq;exact h2 pins s1 σ1 H1 _ _ Q I1 rr q1
def j7(K:Yp)(n:Nat)(t:pY):TG:=λv σ H Q=>∃ a xs,v = .ref a/\ah K H a xs/\xs.length=n/\t xs σ H Q
theorem j8(hc:X.calm=true)(h:tT X es t)(hn:(ac7 es X.env).length=n:=by rfl)(cn:(ac7 es X.env).findIdx? (·.1)=none:=by rfl):PG X (.Tuple es k pos) (j7 X.K n t):=by intro pins s σ H v u Q I r hw;obtain⟨a,xs,e1,hq,hl,hw⟩:=hw;subst e1;cases r;obtain⟨ao,rv,ht,hz⟩:=I.tuple hq;refine assign_Tuple_tuple (I.ok.hd hc) ht (by simp[hn,<- hl,rv.length]) cn λh' hx=>?_;have I1:Inv X pins σ H { s with heap:=h' }:=I.kept (t':=s.toks) λb o e=>hx b o (YH (Yv e)) e;exact h pins _ σ H xs _ Q I1 (by simpa using rv) hw
def Cc(to ti:TE)(t:Ca):TG:=λv σ H Q=>to σ H λo H1=>ti σ H1 λi H2=>t o i v H2 λH3=>Q σ H3
theorem wG(ho:PE X o to)(hi:PE X i ti)(hs:Cb X t)(ha:∀ v,assign (.Subscript o i pos) X.env v=(do
 let ov <- holding [v] (eval o X.env);let iv <- holding [v,ov] (eval i X.env)
 afB pos
 holding [v,ov,iv] (setItem ov iv v)
 release [v,ov,iv] []):=by intro _;rfl):PG X (.Subscript o i pos) (Cc to ti t):=by
 intro pins s σ H v u Q I r h;rw[ha];refine Yo (ZL (aB (ho pins s σ H _ I h) λov s1 zq=>?_));obtain⟨x,H1,I1,r1,q1⟩:=zq;refine Yo (ZL (aB (hi pins s1 σ H1 _ I1 q1) λiv s2 zq=>?_));obtain⟨y,H2,I2,r2,q2⟩:=zq;refine Yo (aeF (Yo (ZL (aB (hs pins s2 σ H2 x y v ov iv u _ I2 r1 r2 r q2) λ_ s3 zq=>?_))));obtain⟨H3,I3,q3⟩:=zq;exact wpAny_release ⟨σ,H3,I3,q3⟩
def tU(te:TE)(g:TG):TS:=λD σ H=>te σ H λx H1=>g x σ H1 D.nx
theorem wH(he:PE X e te)(hg:PG X tg g)(hs:swapsWithSole [tg] e pos.line X.env=pure false:=by rfl)(hw:swappedStores [tg] e X.env=pure none:=by rfl)(h1:(ac7 [tg] X.env).map (·.2)=[assign tg X.env]:=by rfl):PS X (.Assign [tg] e pos) (tU te g):=by intro pins s σ H D I h;refine wpAny_Assign_stores (aB (he pins s σ H _ I h) λv s1 zq=>?_) hs hw;obtain⟨x,H1,I1,r1,q1⟩:=zq;rw[h1];exact aB (hg pins s1 σ H1 x v _ I1 r1 q1) λ_ s2 q=>q
theorem iy(hN:X.N.Nodup)(hi:X.N[i]?=some x)(hx:Loc X.env.scope x)(he:PE X e te)(hs:acr e (some (.Name x pos')) pos.line X.env=pure false:=by rfl)(hf:X.fn x=true∨X.env.scope.names.lookup x=some .local:=by first|exact .inl rfl|exact .inr rfl|assumption) :
 PS X (.Assign [.Name x pos'] e pos) (tU te (cj i)):=by
 intro pins s σ H D I h;refine wpAny_Assign_Name (aB (he pins s σ H _ I h) λv s1 zq=>?_) hs;obtain⟨y,H1,I1,r1,q1⟩:=zq;exact wC I1 hN hi hx r1 (λs2 I2=>⟨_,H1,I2,q1⟩) hf
end
structure It where
 go:Nat->Hp->Prop
 yld:Nat->Hp->V->Hp->Prop
 stop:Nat->Hp->Prop
def cS(X:Cx)(pins:List (YC × Obj))(H:Hp)(b:YC):Prop :=
 H b=none/\b≠X.env.locals/\b∉X.fs/\(b∈X.ex∨X.s₀.heap.objs.size<=b)/\(∀ x c,X.env.cells.lookup x=some c->c≠b)/\∀ p∈X.pn++pins,p.1≠b
theorem Inv.gJ(I:Inv X pins σ H s)(hb:s.heap.objs.size<=b)(hn:H' b=none):cS X pins H' b:=by
 refine⟨hn,Zx (YJ I.lt hb),I.BQ hb,.inr (Yw I.sz hb),λx c e z=>?_,λp hp z=>?_⟩
 .obtain⟨v,q⟩:=I.cell x c e;exact absurd (YJ q.lt (by rw[z];exact hb)) (ZK _)
 .exact absurd (YJ (Yv (I.pin p hp).1) (by rw[z];exact hb)) (ZK _)
structure Turn(P:Zo)(w:ZZ)(K:Yp)(tg:acg)(J:It)(fp:List YC)(it:YC)(tn:Nat->aaW->Prop):Prop where
 mem:it∈fp
 obj:∀ i h,tn i h->∀ b∈fp,∃ o,h.get? b=some o/\∀ v,o.data ≠ .cell v
 keep:∀ i h h',tn i h->(∀ b∈fp,∀ o,h.get? b=some o->h'.get? b=some o)->tn i h'
 item:∀ (X:Cx),X.prog=P->X.w=w->X.K=K->X.calm=true->∀ (i:Nat) (pins:List (YC × Obj)) (s:YB) (σ:St) (H:Hp) (E:Yy->YB->Prop),Inv X pins σ H s->(∀ b∈fp,cS X pins H b)->tn i s.heap->J.go i H ->
  YL (model P w) X.A (aa9 (.ref it)) (λr s1=>∃ u,r=some u /\
   YL (model P w) X.A (acs tg (.ref it) u) (λ_ s2=>∃ x H',Inv X pins σ H' s2/\RelV x u/\J.yld i H x H'/\tn (i+1) s2.heap/\∀ b∈fp,H' b=none) E s1) E s
 done:∀ (X:Cx),X.prog=P->X.w=w->X.K=K->X.calm=true->∀ (i:Nat) (pins:List (YC × Obj)) (s:YB) (σ:St) (H:Hp) (E:Yy->YB->Prop),Inv X pins σ H s->(∀ b∈fp,cS X pins H b)->tn i s.heap->J.stop i H ->
  YL (model P w) X.A (aa9 (.ref it)) (λr s1=>r=none/\Inv X pins σ H s1) E s
 self:∀ (A:aac) (i:Nat) (s:YB) (Q:Yy->YB->Prop) (E:Yy->YB->Prop),tn i s.heap->Q (.ref it) s->YL (model P w) A (ags (.ref it)) Q E s
abbrev TI:=St->Hp->(It->Hp->Prop)->Prop
def Cd(X:Cx)(pins:List (YC × Obj))(σ:St)(tg:acg)(R:It->Hp->Prop)(pZ:Yy)(s2:YB):Prop :=
 ∃ (it:YC) (fp:List YC) (tn:Nat->aaW->Prop) (J:It) (H':Hp),pZ = .ref it/\Inv X pins σ H' s2/\Turn X.prog X.w X.K tg J fp it tn/\tn 0 s2.heap/\(∀ b∈fp,cS X pins H' b)/\R J H'
def PI(X:Cx)(tg iter:acg)(wi:TI):Prop :=
 ∀ (pins:List (YC × Obj)) (s:YB) (σ:St) (H:Hp) (R:It->Hp->Prop),Inv X pins σ H s->wi σ H R ->
  YL (model X.prog X.w) X.A (eval iter X.env) (λv s1=>YL (model X.prog X.w) X.A (ags v) (Cd X pins σ tg R) X.xe s1) X.xe s
theorem nP(ho:s.heap.get? it=some o)(hc:o.cls = .type n)(hd:o.data = .fields vs)(hn:["enumerate","zip","dict_itemiterator","dict_reverseitemiterator","odict_iterator","itertools.zip_longest","itertools.pairwise"].contains n=false)(hQ:Q () s):YL M A (acs tg (.ref it) u) Q E s:=by
 unfold acs;cases tg<;>first
  | exact Yu hQ
  | (cases u<;>first
      | exact Yu hQ
      | (refine Yo (wpAny_load ho ?_)
         rw[hc,hd];show YL M A (if (["enumerate","zip","dict_itemiterator","dict_reverseitemiterator","odict_iterator","itertools.zip_longest","itertools.pairwise"].contains n && vs[0]? == some (abU _))=true then _ else _) Q E s;rw[if_neg (by intro h;rw[hn,ab4] at h;cases h)];exact Yu hQ))
noncomputable def jk(K:Yp)(a:YC):It :=
 ⟨λi H=>∃ xs x,ai K H a xs/\xs[i]?=some x,λi H x H'=>H'=H/\∀ xs,ai K H a xs->xs[i]?=some x,λi H=>∃ xs,ai K H a xs/\xs.length<=i⟩
noncomputable def p8(K:Yp)(a:YC):It :=
 ⟨λi H=>∃ xs x,ah K H a xs/\xs[i]?=some x,λi H x H'=>H'=H/\∀ xs,ah K H a xs->xs[i]?=some x,λi H=>∃ xs,ah K H a xs/\xs.length<=i⟩
noncomputable def gK(lo:Int)(n:Nat):It:=⟨λi _=>i<n,λi H x H'=>H'=H/\x = .int (lo+i),λi _=>n<=i⟩
theorem KQ{P:Zo}{w:ZZ}{K:Yp}{tg:acg}(a it:YC):Turn P w K tg (jk K a) [it] it (λi h=>h.IsListIter it a i) where
 mem:=by simp
 obj:=λi h st b hb=>by
  have e:b=it:=by simpa using hb
  subst e;obtain⟨o,e,c,d⟩:=st;exact⟨o,e,λv z=>by rw[d] at z;cases z⟩
 keep:=λi h h' st k=>st.at λo e=>k it (by simp) o e
 item:=by intro X hP hw hK hc i pins s σ H E I hf st hg;subst hP hw hK;obtain⟨xs,x,hq,hx⟩:=hg;obtain⟨ao,rv,p,hz⟩:=I.list hq;obtain⟨u,hu,ru⟩:=rv.get hx;obtain⟨f0,f1,f2,f3,f4,f5⟩:=hf it (by simp);refine wpAny_pyNext_list_item st p.isList (x:=u) (by simpa using hu) λh' cz sb=>?_;have I1:Inv X pins σ H { s with heap:=h' }:=I.turned (t':=s.toks) (λb o hb e=>(sb.2 b hb).trans e) f0 f1 f3 f4 f5;obtain⟨o,e,c,d⟩:=id cz;exact⟨u,rfl,nP (s:={ s with heap:=h' }) e c d (by decide) ⟨x,H,I1,ru,⟨rfl,λys hy=>by rw[I.pX hy hq];exact hx⟩,cz,λb hb=>(hf b hb).1⟩⟩
 done:=by
  intro X hP hw hK hc i pins s σ H E I hf st hg;subst hP hw hK;obtain⟨xs,hq,hx⟩:=hg;obtain⟨ao,rv,p,hz⟩:=I.list hq;obtain⟨f0,f1,f2,f3,f4,f5⟩:=hf it (by simp);have hl:=rv.length;exact wpAny_pyNext_list_end (I.ok.hd hc) st p.isList (by simp;omega) λh' eb=>⟨rfl,I.turned (t':=s.toks) (λb o hb e=>eb b o hb e) f0 f1 f3 f4 f5⟩
 self:=λ_ _ _ _ _ st h=>wpAny_pyIter_listiter st h
theorem KR{P:Zo}{w:ZZ}{K:Yp}{tg:acg}(a it:YC):Turn P w K tg (p8 K a) [it] it (λi h=>h.IsTupleIter it a i) where
 mem:=by simp
 obj:=λi h st b hb=>by
  have e:b=it:=by simpa using hb
  subst e;obtain⟨o,e,c,d⟩:=st;exact⟨o,e,λv z=>by rw[d] at z;cases z⟩
 keep:=λi h h' st k=>st.at λo e=>k it (by simp) o e
 item:=by intro X hP hw hK hc i pins s σ H E I hf st hg;subst hP hw hK;obtain⟨xs,x,hq,hx⟩:=hg;obtain⟨ao,rv,p,hz⟩:=I.tuple hq;obtain⟨u,hu,ru⟩:=rv.get hx;obtain⟨f0,f1,f2,f3,f4,f5⟩:=hf it (by simp);refine wpAny_pyNext_tuple_item st (show s.heap.IsTuple a ao.toArray from p) (x:=u) (by simpa using hu) λh' cz sb=>?_;have I1:Inv X pins σ H { s with heap:=h' }:=I.turned (t':=s.toks) (λb o hb e=>(sb.2 b hb).trans e) f0 f1 f3 f4 f5;obtain⟨o,e,c,d⟩:=id cz;exact⟨u,rfl,nP (s:={ s with heap:=h' }) e c d (by decide) ⟨x,H,I1,ru,⟨rfl,λys hy=>by rw[I.KP hy hq];exact hx⟩,cz,λb hb=>(hf b hb).1⟩⟩
 done:=by
  intro X hP hw hK hc i pins s σ H E I hf st hg;subst hP hw hK;obtain⟨xs,hq,hx⟩:=hg;obtain⟨ao,rv,p,hz⟩:=I.tuple hq;obtain⟨f0,f1,f2,f3,f4,f5⟩:=hf it (by simp);have hl:=rv.length;exact wpAny_pyNext_tuple_end (I.ok.hd hc) st (show s.heap.IsTuple a ao.toArray from p) (by simp;omega) λh' eb=>⟨rfl,I.turned (t':=s.toks) (λb o hb e=>eb b o hb e) f0 f1 f3 f4 f5⟩
 self:=λ_ _ _ _ _ st h=>wpAny_pyIter_tupleiter st h
theorem KS{P:Zo}{w:ZZ}{K:Yp}{tg:acg}(it:YC)(lo:Int)(n:Nat):Turn P w K tg (gK lo n) [it] it (λi h=>aeq h it (lo+(i:Nat) * 1) ((n:Int)-(i:Nat)) 1) where
 mem:=by simp
 obj:=λi h st b hb=>by
  have e:b=it:=by simpa using hb
  subst e;exact⟨_,st,λv z=>by
   have z':Data.fields _=Data.cell v:=z;cases z'⟩
 keep:=λi h h' st k=>k it (by simp) _ st
 item:=by intro X hP hw hK hc i pins s σ H E I hf st hg;subst hP hw hK;obtain⟨f0,f1,f2,f3,f4,f5⟩:=hf it (by simp);have W:=Walks.range (prog:=X.prog) (w:=X.w) (I.ok.hd hc) it lo 1 n;refine W.item i s _ _ hg st λv h' tk hv cz kk=>?_;obtain⟨t,rfl⟩:=hv;have I1:Inv X pins σ H { s with heap:=h',toks:=tk }:=I.turned (λb o hb e=>kk b o (by simpa using hb) e) f0 f1 f3 f4 f5;refine⟨_,rfl,nP (s:={ s with heap:=h',toks:=tk }) (n := "range_iterator") cz rfl rfl (by decide) ⟨.int (lo+i),H,I1,⟨t,?_⟩,⟨rfl,rfl⟩,cz,λb hb=>(hf b hb).1⟩⟩;rw[Int.mul_one]
 done:=by
  intro X hP hw hK hc i pins s σ H E I hf st hg;subst hP hw hK;obtain⟨f0,f1,f2,f3,f4,f5⟩:=hf it (by simp);exact adI (I.ok.hd hc) st (by have:n<=i:=hg;omega) λh' eb=>⟨rfl,I.turned (t':=s.toks) (λb o hb e=>eb b o hb e) f0 f1 f3 f4 f5⟩
 self:=λ_ _ _ _ _ st h=>adJ st h
section
def tV(K:Yp)(tl:TE):TI:=λσ H R=>tl σ H λx H1=>∃ a,x = .ref a/\(∃ xs,ai K H1 a xs)/\R (jk K a) H1
def wI(K:Yp)(tl:TE):TI:=λσ H R=>tl σ H λx H1=>∃ a,x = .ref a/\(∃ xs,ah K H1 a xs)/\R (p8 K a) H1
theorem cU(hl:PE X l tl):PI X tg l (tV X.K tl):=by
 intro pins s σ H R I h;refine aB (hl pins s σ H _ I h) λv s1 zq=>?_;obtain⟨x,H1,I1,r1,q1⟩:=zq;obtain⟨a,e,⟨xs,hq⟩,q⟩:=q1;subst e;cases r1;obtain⟨ao,rv,p,hz⟩:=I1.list hq;refine abY p.isList ?_;refine⟨s1.heap.objs.size,[s1.heap.objs.size],_,_,H1,rfl,I1.kept (t':=s1.toks) λb o e=>Yt _ e,KQ a _,⟨_,YA _ rfl,rfl,rfl⟩,λb hb=>?_,q⟩;have e:b=s1.heap.objs.size:=by simpa using hb
 subst e;exact I1.gJ (Yz _) (I1.ay.fresh (Yz _))
theorem wJ(hl:PE X l tl):PI X tg l (wI X.K tl):=by
 intro pins s σ H R I h;refine aB (hl pins s σ H _ I h) λv s1 zq=>?_;obtain⟨x,H1,I1,r1,q1⟩:=zq;obtain⟨a,e,⟨xs,hq⟩,q⟩:=q1;subst e;cases r1;obtain⟨ao,rv,p,hz⟩:=I1.tuple hq;refine aeG (show s1.heap.IsTuple a ao.toArray from p) ?_;refine⟨s1.heap.objs.size,[s1.heap.objs.size],_,_,H1,rfl,I1.kept (t':=s1.toks) λb o e=>Yt _ e,KR a _,⟨_,YA _ rfl,rfl,rfl⟩,λb hb=>?_,q⟩;have e:b=s1.heap.objs.size:=by simpa using hb
 subst e;exact I1.gJ (Yz _) (I1.ay.fresh (Yz _))
theorem Ce{pins:List (YC × Obj)}{σ:St}{H:Hp}{s:YB}{R:It->Hp->Prop}{E:Yy->YB->Prop}{lo hi:Int}{t u v:Tok}{tk:Nat}(I:Inv X pins σ H s)(h1 : -(2 ^ 62)<=lo)(h2:lo<2 ^ 62)(h3 : -(2 ^ 62)<=hi)(h4:hi<2 ^ 62)
 (q:R (gK lo (hi-lo).toNat) H):YL (model X.prog X.w) X.A (ags (.ref s.heap.objs.size)) (Cd X pins σ tg R) E { s with heap:=s.heap.push { cls:=.type "range",data:=.fields #[.int lo t,.int hi u,.int 1 v] },toks:=tk }:=by
 refine aeH (IsRange.new ..) (small_one h1 h2 h3 h4) ?_;have I1:Inv X pins σ H { s with heap:=s.heap.push { cls:=.type "range",data:=.fields #[.int lo t,.int hi u,.int 1 v] },toks:=tk }:=I.kept λb o e=>Yt _ e;refine⟨(s.heap.push { cls:=.type "range",data:=.fields #[.int lo t,.int hi u,.int 1 v] }).objs.size,[(s.heap.push { cls:=.type "range",data:=.fields #[.int lo t,.int hi u,.int 1 v] }).objs.size],_,_,H,rfl,
  I1.kept (t':=tk) λb o e=>Yt _ e,KS _ lo (hi-lo).toNat,?_,λb hb=>?_,q⟩
 .have e1:lo+((0:Nat):Int) * 1=lo:=by simp
  have e2:(((hi-lo).toNat:Nat):Int)-((0:Nat):Int)=Zr lo hi 1:=by rw[rangeSize_one];split<;>omega
  show aeq _ _ (lo+((0:Nat):Int) * 1) ((((hi-lo).toNat:Nat):Int)-((0:Nat):Int)) 1;rw[e1,e2];exact YA _ rfl
 .have e:b=(s.heap.push { cls:=.type "range",data:=.fields #[.int lo t,.int hi u,.int 1 v] }).objs.size:=by simpa using hb
  subst e;exact I1.gJ (Yz _) (I1.ay.fresh (Yz _))
def wK(ta:TA):TI:=λσ H R=>ta σ H λvs H1=>∃ j:Int,vs=[.int j]/\-(2 ^ 62)<=j/\j<2 ^ 62/\R (gK 0 j.toNat) H1
def wL(ta:TA):TI:=λσ H R=>ta σ H λvs H1=>∃ i j:Int,vs=[.int i,.int j]/\(-(2 ^ 62)<=i/\i<2 ^ 62/\-(2 ^ 62)<=j/\j<2 ^ 62)/\R (gK i (j-i).toNat) H1
theorem fH(hg:Gl X "range")(hm:X.mg "range" = none)(ha:PA X [a] ta)(hs:YQ [a] X.env=[(false,eval a X.env)]:=by rfl):PI X tg (.Call (.Name "range" p) [a] [] pos) (wK ta):=by
 intro pins s σ H R I h;refine agG (eX I hg hm af7 (Y7 (aB (ha pos pins s σ H _ I h) λus s1 zq=>?_) hs rfl));obtain⟨vs,H1,I1,r1,q1⟩:=zq;obtain⟨j,e,q1,q2,q⟩:=q1;subst e;cases r1 with
 | cons r rr =>
  cases rr;obtain⟨t,rfl⟩:=r;exact call_range_1 (Ce I1 (by omega) (by omega) q1 q2 (by simpa using q))
theorem j9(hg:Gl X "range")(hm:X.mg "range" = none)(ha:PA X [a,b] ta)(hs:YQ [a,b] X.env=[(false,eval a X.env),(false,eval b X.env)]:=by rfl)(cA:YQ [b] X.env=[(false,eval b X.env)]:=by rfl) :
 PI X tg (.Call (.Name "range" p) [a,b] [] pos) (wL ta):=by
 intro pins s σ H R I h;refine agG (eX I hg hm af7 (Y7 (aB (ha pos pins s σ H _ I h) λus s1 ⟨vs,H1,I1,r1,q1⟩=>?_) (by rw[hs,cA]) (by rw[cA];rfl)));obtain⟨i,j,e,⟨q1,q2,q3,q4⟩,q⟩:=q1;subst e;cases r1 with
 | cons r rr =>
  cases rr with
  | cons r' rr =>
   cases rr;obtain⟨t,rfl⟩:=r;obtain⟨t',rfl⟩:=r';exact call_range_2 (Ce I1 q1 q2 q3 q4 q)
def jm(wi:TI)(g:TG)(tb:TS):TS:=λD σ H=>wi σ H λJ H1=>∃ W:Nat->Nat->St->Hp->Prop,(∃ m,W 0 m σ H1)/\∀ i m σ H,W i m σ H ->
 (J.stop i H/\D.nx σ H)∨(J.go i H/\∃ N:St->Hp->Prop,(∀ σ' H',N σ' H'->∃ m',m'<m/\W (i+1) m' σ' H')/\∀ x H',J.yld i H x H'->g x σ H' λσ2 H2=>tb { D with nx:=N,ct:=N,bk:=D.nx } σ2 H2)
noncomputable def qb(fp:List YC)(h:aaW):List (YC × Obj):=fp.filterMap λb=>(h.get? b).map λo=>(b,o)
theorem tW(hb:b∈fp)(e:h.get? b=some o):(b,o)∈qb fp h:=acM.mpr ⟨b,hb,by rw[e];rfl⟩
theorem KU(hp:p∈qb fp h):p.1∈fp/\h.get? p.1=some p.2:=by
 obtain⟨b,hb,e⟩:=acM.mp hp;cases q:h.get? b with
 | none=>rw[q] at e;cases e
 | some o =>
  rw[q] at e;have e':(b,o)=p:=Option.some.inj e;subst e';exact⟨hb,q⟩
theorem Inv.pinned(I:Inv X pins σ H s)(hf:∀ b∈fp,cS X pins H b)(ho:∀ b∈fp,∃ o,s.heap.get? b=some o/\∀ v,o.data ≠ .cell v):Inv X (pins++qb fp s.heap) σ H s :=
 I.pR λp hp=>(Y3.mp hp).elim (λz=>I.pin p (YX _ z)) λz=>by obtain⟨hb,e⟩:=KU z;obtain⟨f0,f1,f2,_⟩:=hf p.1 hb;obtain⟨o,e',d⟩:=ho p.1 hb;rw[e] at e';cases e';exact⟨e,f0,f1,f2,d⟩
theorem Inv.tX(I:Inv X (pins++pl) σ H s):Inv X pins σ H s:=I.pR λp hp=>I.pin p (YX _ (Z4 _ hp))
theorem cu(hp:PassesOwn (model X.prog X.w) X.A X.env X.xe)(hc:X.calm=true)(hi:PI X tg iter wi)(hg:PG X tg g)(hb:aM X body tb)(hs:∀ x,aar iter X.env x=pure x:=by intro _;rfl):PS X (.For tg iter body [] pos) (jm wi g tb):=by
 intro pins s σ H D I h;refine wpAny_For (aB (hi pins s σ H _ I h) λv s1 h1=>aB h1 λpZ s2 h2=>?_) hs;obtain⟨it,fp,tn,J,H2,e,I2,T,dU,f2,W,⟨m0,w0⟩,turn⟩:=h2;subst e;have wM:∀ {H':Hp},(∀ b∈fp,H' b=none)->∀ b∈fp,cS X pins H' b:=λhn b hb=>⟨hn b hb,(f2 b hb).2⟩
 refine codeAny_forLoop_any (λn s'=>∃ i σ' H',Inv X pins σ' H' s'/\tn i s'.heap/\(∀ b∈fp,H' b=none)/\W i n σ' H') ?_ m0 ⟨0,σ,H2,I2,dU,λb hb=>(f2 b hb).1,w0⟩;rintro n s3 ⟨i,σ3,H3,I3,qc,qd,w3⟩;rcases turn i n σ3 H3 w3 with ⟨stop,qn⟩|⟨go,N,hN,step⟩
 .refine abL hp (aB (T.done X rfl rfl rfl hc i pins s3 σ3 H3 X.xe I3 (wM qd) qc stop) λr s4 zq=>?_);obtain⟨hr,I4⟩:=zq;subst hr;exact acq ⟨σ3,H3,I4,qn⟩
 .refine abL hp (aB (T.item X rfl rfl rfl hc i pins s3 σ3 H3 X.xe I3 (wM qd) qc go) λr s4 zq=>?_);obtain⟨u,hr,h4⟩:=zq;subst hr;refine abL hp (aB h4 λ_ s5 zq=>?_);obtain⟨x,H5,I5,r5,y5,mx,wN⟩:=zq;have wO:=I5.pinned (wM wN) (T.obj _ _ mx);refine abL hp (aB (hg _ s5 σ3 H5 x u _ wO r5 (step x H5 y5)) λ_ s6 zq=>?_);obtain⟨σ6,H6,I6,q6⟩:=zq;refine abL hp (aB (hb _ s6 σ6 H6 _ I6 q6) λf s7 q7=>?_);have again:∀ {σ7:St} {H7:Hp},Inv X (pins++qb fp s5.heap) σ7 H7 s7->N σ7 H7->∃ m,m<n/\∃ i σ' H',Inv X pins σ' H' s7/\tn i s7.heap/\(∀ b∈fp,H' b=none)/\W i m σ' H':=λ{σ7 H7} I7 n7=>by obtain⟨m',hm,w7⟩:=hN σ7 H7 n7;refine⟨m',hm,i+1,σ7,H7,I7.tX,T.keep _ _ _ mx λb hb o e=>(I7.pin (b,o) (YX _ (YX _ (tW hb e)))).1,λb hb=>?_,w7⟩;obtain⟨o,e,d⟩:=T.obj _ _ mx b hb;exact (I7.pin (b,o) (YX _ (YX _ (tW hb e)))).2.1
  cases f with
  | next=>obtain⟨σ7,H7,I7,n7⟩:=q7;exact again I7 n7
  | cont=>obtain⟨σ7,H7,I7,n7⟩:=q7;exact again I7 n7
  | brk=>obtain⟨σ7,H7,I7,q7⟩:=q7;exact⟨σ7,H7,I7.tX,q7⟩
  | ret v=>obtain⟨x7,σ7,H7,I7,r7,q7⟩:=q7;exact⟨x7,σ7,H7,I7.tX,r7,q7⟩
end
theorem KW{K:Yp}{a:YC}{xs:List V}{g:TG}{tb:TS}{D:Ends}{σ:St}{H:Hp}(Pv:Nat->St->Hp->Prop)(h0:Pv 0 σ H)(hl:∀ i σ H,i<=xs.length->Pv i σ H->ai K H a xs)
 (hs:∀ i x σ H,xs[i]?=some x->Pv i σ H->g x σ H λσ2 H2=>tb { D with nx:=Pv (i+1),ct:=Pv (i+1),bk:=D.nx } σ2 H2) (hd:∀ σ H,Pv xs.length σ H->D.nx σ H) :
 ∃ W:Nat->Nat->St->Hp->Prop,(∃ m,W 0 m σ H)/\∀ i m σ H,W i m σ H ->
  ((jk K a).stop i H/\D.nx σ H)∨((jk K a).go i H/\∃ N:St->Hp->Prop,(∀ σ' H',N σ' H'->∃ m',m'<m/\W (i+1) m' σ' H')/\∀ x H',(jk K a).yld i H x H'->g x σ H' λσ2 H2=>tb { D with nx:=N,ct:=N,bk:=D.nx } σ2 H2):=by
 refine⟨λi m σ H=>m=xs.length-i/\i<=xs.length/\Pv i σ H,⟨xs.length,by simp,YS _,h0⟩,?_⟩;rintro i m σ H ⟨rfl,hi,p⟩;have q:=hl i σ H hi p;by_cases aT:i<xs.length
 .refine .inr ⟨⟨xs,xs[i],q,by simp[aT]⟩,Pv (i+1),λσ' H' p'=>⟨xs.length-(i+1),by omega,rfl,aT,p'⟩,λx H' y=>?_⟩;obtain⟨e,y⟩:=y;subst e;exact hs i x σ _ (y xs q) p
 .have e:i=xs.length:=by omega
  subst e;exact .inl ⟨⟨xs,q,Yz _⟩,hd σ H p⟩
theorem KY{lo:Int}{n:Nat}{g:TG}{tb:TS}{D:Ends}{σ:St}{H:Hp}(Pv:Nat->St->Hp->Prop)(h0:Pv 0 σ H)
 (hs:∀ i σ H,i<n->Pv i σ H->g (.int (lo+i)) σ H λσ2 H2=>tb { D with nx:=Pv (i+1),ct:=Pv (i+1),bk:=D.nx } σ2 H2) (hd:∀ σ H,Pv n σ H->D.nx σ H) :
 ∃ W:Nat->Nat->St->Hp->Prop,(∃ m,W 0 m σ H)/\∀ i m σ H,W i m σ H ->
  ((gK lo n).stop i H/\D.nx σ H)∨((gK lo n).go i H/\∃ N:St->Hp->Prop,(∀ σ' H',N σ' H'->∃ m',m'<m/\W (i+1) m' σ' H')/\∀ x H',(gK lo n).yld i H x H'->g x σ H' λσ2 H2=>tb { D with nx:=N,ct:=N,bk:=D.nx } σ2 H2):=by
 refine⟨λi m σ H=>m=n-i/\i<=n/\Pv i σ H,⟨n,by simp,YS _,h0⟩,?_⟩;rintro i m σ H ⟨rfl,hi,p⟩;by_cases aT:i<n
 .refine .inr ⟨aT,Pv (i+1),λσ' H' p'=>⟨n-(i+1),by omega,rfl,aT,p'⟩,λx H' y=>?_⟩;obtain⟨e,y⟩:=y;subst e y;exact hs i σ _ aT p
 .have e:i=n:=by omega
  subst e;exact .inl ⟨Yz _,hd σ H p⟩
abbrev R2:=V->V->Hp->VK->Prop
def aX(X:Cx)(f:Yy->Yy->Sem Yy)(r:R2):Prop :=
 ∀ (pins:List (YC × Obj)) (s:YB) (σ:St) (H:Hp) (x y:V) (v u:Yy) (Q:VK),Inv X pins σ H s->RelV x v->RelV y u->r x y H Q ->
  YL (model X.prog X.w) X.A (f v u) (EP X pins σ Q) X.xe s
def nQ(X:Cx)(f:Yy->Sem Yy)(r:V->Hp->VK->Prop):Prop :=
 ∀ (pins:List (YC × Obj)) (s:YB) (σ:St) (H:Hp) (x:V) (v:Yy) (Q:VK),Inv X pins σ H s->RelV x v->r x H Q ->
  YL (model X.prog X.w) X.A (f v) (EP X pins σ Q) X.xe s
def dW(X:Cx)(f:Yy)(r:List V->Hp->VK->Prop):Prop :=
 ∀ (pins:List (YC × Obj)) (s:YB) (σ:St) (H:Hp) (xs:List V) (us:List Yy) (Q:VK),Inv X pins σ H s->Vals xs us->r xs H Q ->
  YL (model X.prog X.w) X.A (call f us) (EP X pins σ Q) X.xe s
def my(r:R2)(ta tb:TE):TE:=λσ H Q=>ta σ H λx H1=>tb σ H1 λy H2=>r x y H2 Q
def Cf(r:V->Hp->VK->Prop)(ta:TE):TE:=λσ H Q=>ta σ H λx H1=>r x H1 Q
def rI(C:Int->Int->Prop)(g:Int->Int->V):R2:=λx y H Q=>∃ i j,x = .int i/\y = .int j/\C i j/\Q (g i j) H
def fI(g:Int->Int->V):R2:=λx y H Q=>∃ i j,x = .int i/\y = .int j/\Q (g i j) H
def rU(g:Int->V):V->Hp->VK->Prop:=λx H Q=>∃ i,x = .int i/\Q (g i) H
section
theorem wQ(ha:PE X a ta)(hb:PE X b tb){pins:List (YC × Obj)}{s:YB}{σ:St}{H:Hp}{R:V->V->Hp->Prop}(I:Inv X pins σ H s)
 (h:ta σ H λx H1=>tb σ H1 λy H2=>R x y H2) {Q:Yy->YB->Prop} {f:Yy->Yy->Sem Yy}
 (hf:∀ v u s2 x y H2,Inv X pins σ H2 s2->RelV x v->RelV y u->R x y H2->YL (model X.prog X.w) X.A (f v u) Q X.xe s2) :
 YL (model X.prog X.w) X.A (eval a X.env) (λv s₁=>YL (model X.prog X.w) X.A (eval b X.env) (λu s₂=>YL (model X.prog X.w) X.A (f v u) Q X.xe s₂) X.xe s₁) X.xe s:=by
 refine aB (ha pins s σ H _ I h) λv s1 zq=>?_;obtain⟨x,H1,I1,r1,q1⟩:=zq;refine aB (hb pins s1 σ H1 _ I1 q1) λu s2 zq=>?_;obtain⟨y,H2,I2,r2,q2⟩:=zq;exact hf v u s2 x y H2 I2 r1 r2 q2
theorem aG(ho:aX X (abr op) r)(ha:PE X a ta)(hb:PE X b tb):PE X (.BinOp a op b pos) (my r ta tb):=by intro pins s σ H Q I h;exact wpAny_BinOp (wQ ha hb I h λv u s2 x y H2 I2 rx ry q=>ho pins s2 σ H2 x y v u Q I2 rx ry q)
theorem gL(ho:nQ X (unaryOp op) r)(ha:PE X a ta):PE X (.UnaryOp op a pos) (Cf r ta):=by intro pins s σ H Q I h;exact UnaryOp_ (aB (ha pins s σ H _ I h) λv s1 ⟨x,H1,I1,r1,q1⟩=>ho pins s1 σ H1 x v Q I1 r1 q1)
theorem tY{f:Yy->Yy->Sem Yy}{C:Int->Int->Prop}{g:Int->Int->Int}
 (rule:∀ (i j:Int) (t u:Tok) (s:YB) (Q:Yy->YB->Prop) (E:Yy->YB->Prop),C i j->Q (.int (g i j) s.toks) { s with toks:=s.toks+1 }->YL (model X.prog X.w) X.A (f (.int i t) (.int j u)) Q E s) :
 aX X f (rI C λi j=>.int (g i j)):=by
 intro pins s σ H x y v u Q I rx ry h;obtain⟨i,j,rfl,rfl,hc,q⟩:=h;obtain⟨t,rfl⟩:=rx;obtain⟨t',rfl⟩:=ry;exact rule i j t t' s _ _ hc ⟨.int (g i j),H,I.tok _,⟨_,rfl⟩,q⟩
theorem Cg{f:Yy->Yy->Sem Yy}{g:Int->Int->Int}
 (rule:∀ (i j:Int) (t u:Tok) (s:YB) (Q:Yy->YB->Prop) (E:Yy->YB->Prop),Q (.int (g i j) s.toks) { s with toks:=s.toks+1 }->YL (model X.prog X.w) X.A (f (.int i t) (.int j u)) Q E s) :
 aX X f (fI λi j=>.int (g i j)):=by
 intro pins s σ H x y v u Q I rx ry h;obtain⟨i,j,rfl,rfl,q⟩:=h;obtain⟨t,rfl⟩:=rx;obtain⟨t',rfl⟩:=ry;exact rule i j t t' s _ _ ⟨.int (g i j),H,I.tok _,⟨_,rfl⟩,q⟩
theorem tZ{f:Yy->Yy->Sem Yy}{g:Int->Int->Bool}
 (rule:∀ (i j:Int) (t u:Tok) (s:YB) (Q:Yy->YB->Prop) (E:Yy->YB->Prop),Q (.bool (g i j)) s->YL (model X.prog X.w) X.A (f (.int i t) (.int j u)) Q E s) :
 aX X f (fI λi j=>.bl (g i j)):=by
 intro pins s σ H x y v u Q I rx ry h;obtain⟨i,j,rfl,rfl,q⟩:=h;obtain⟨t,rfl⟩:=rx;obtain⟨t',rfl⟩:=ry;exact rule i j t t' s _ _ ⟨.bl (g i j),H,I,rfl,q⟩
def KZ(i j:Int):Prop:=0<=j/\j<=1000000/\i.natAbs<2 ^ 64
theorem K0:aX X (abr .Add) (fI λi j=>.int (i+j)):=Cg λ_ _ _ _ _ _ _ q=>add_int q
theorem K1:aX X (abr .Sub) (fI λi j=>.int (i-j)):=Cg λ_ _ _ _ _ _ _ q=>sub_int q
theorem K2:aX X (abr .Mod) (rI (λ_ j=>0<j) λi j=>.int (i % j)):=tY λi j _ _ _ _ _ hc q=>by have h1:(0:Int)<j:=hc;exact mod_int' (by omega) (by rw[Int.fmod_eq_emod_of_nonneg i (by omega)];exact q)
theorem wR:aX X (abr .Pow) (rI KZ λi j=>.int (i ^ j.toNat)):=tY λ_ _ _ _ _ _ _ hc q=>pow_int_small hc.1 hc.2.1 hc.2.2 q
theorem K3{f:Yy->Sem Yy}{g:Int->Int}
 (rule:∀ (i:Int) (t:Tok) (s:YB) (Q:Yy->YB->Prop) (E:Yy->YB->Prop),Q (.int (g i) s.toks) { s with toks:=s.toks+1 }->YL (model X.prog X.w) X.A (f (.int i t)) Q E s) :
 nQ X f (rU λi=>.int (g i)):=by
 intro pins s σ H x v Q I rx h;obtain⟨i,rfl,q⟩:=h;obtain⟨t,rfl⟩:=rx;exact rule i t s _ _ ⟨.int (g i),H,I.tok _,⟨_,rfl⟩,q⟩
theorem K4:nQ X (unaryOp .USub) (rU λi=>.int (-i)):=K3 λ_ _ _ _ _ q=>neg_int q
end
noncomputable def ke:V->V->Bool
 | .non,.non=>true|.non,.int _=>true|.int _,.non=>true|.non,.bl _=>true|.bl _,.non=>true|.non,.str _=>true|.str _,.non=>true
 | .int _,.int _=>true|.bl _,.bl _=>true|.str _,.str _=>true|.byt _,.byt _=>true
 | .int _,.str _=>true|.str _,.int _=>true|.bl _,.str _=>true|.str _,.bl _=>true
 | _,_=>false
def Ci:R2:=λx y H Q=>ke x y=true/\Q (.bl (decide (x=y))) H
def Cj:R2:=λx y H Q=>ke x y=true/\Q (.bl (!decide (x=y))) H
theorem Ck:decide (V.int i=V.int j)=(i == j):=by rw[aba];simp
theorem Cm:decide (V.bl i=V.bl j)=(i == j):=by rw[aba];simp
theorem Cn:decide (V.str i=V.str j)=(i == j):=by rw[aba];simp
theorem Co:decide (V.byt i=V.byt j)=(i.toList == j.toList):=by rw[aba];cases i;cases j;simp
section
theorem b0(I:Inv X pins σ H s)(q:Q (.bl k) H)(e:k=k'):EP X pins σ Q (.bool k') s:=by subst e;exact⟨.bl k,H,I,rfl,q⟩
theorem nR:aX X (Zw .Eq) Ci:=by
 intro pins s σ H x y v u Q I rx ry h;obtain⟨hs,q⟩:=h;cases x with
 | non =>
  cases rx;cases y with
  | non=>cases ry;exact PySem.EqNone.eq_none_none (b0 I q (by simp))
  | bl j=>cases ry;exact PySem.EqNone.eq_none_bool (b0 I q (by simp))
  | int j=>obtain⟨t',rfl⟩:=ry;exact PySem.EqNone.eq_none_int (b0 I q (by simp))
  | str j=>obtain⟨t',rfl⟩:=ry;exact PySem.EqNone.eq_none_str (b0 I q (by simp))
  | _=>exact absurd (show false=true from hs) YN
 | bl i =>
  cases rx;cases y with
  | non=>cases ry;exact PySem.EqNone.eq_bool_none (b0 I q (by simp))
  | bl j=>cases ry;exact eq_bool (b0 I q Cm)
  | str j=>obtain⟨t',rfl⟩:=ry;exact PySem.EqMixed.eq_bool_str (b0 I q (by simp))
  | _=>exact absurd (show false=true from hs) YN
 | int i =>
  obtain⟨t,rfl⟩:=rx;cases y with
  | non=>cases ry;exact PySem.EqNone.eq_int_none (b0 I q (by simp))
  | int j=>obtain⟨t',rfl⟩:=ry;exact eq_int (b0 I q Ck)
  | str j=>obtain⟨t',rfl⟩:=ry;exact PySem.EqMixed.eq_int_str (b0 I q (by simp))
  | _=>exact absurd (show false=true from hs) YN
 | str i =>
  obtain⟨t,rfl⟩:=rx;cases y with
  | non=>cases ry;exact PySem.EqNone.eq_str_none (b0 I q (by simp))
  | bl j=>cases ry;exact PySem.EqMixed.eq_str_bool (b0 I q (by simp))
  | int j=>obtain⟨t',rfl⟩:=ry;exact PySem.EqMixed.eq_str_int (b0 I q (by simp))
  | str j=>obtain⟨t',rfl⟩:=ry;exact eq_str (b0 I q Cn)
  | _=>exact absurd (show false=true from hs) YN
 | byt i =>
  obtain⟨t,rfl⟩:=rx;cases y with
  | byt j=>obtain⟨t',rfl⟩:=ry;exact PySem.W.eq_bytes (b0 I q Co)
  | _=>exact absurd (show false=true from hs) YN
 | _=>cases y<;>exact absurd (show false=true from hs) YN
theorem K5:aX X (Zw .NotEq) Cj:=by
 intro pins s σ H x y v u Q I rx ry h;obtain⟨hs,q⟩:=h;cases x with
 | non =>
  cases rx;cases y with
  | non=>cases ry;exact PySem.EqNone.ne_none_none (b0 I q (by simp))
  | bl j=>cases ry;exact PySem.EqNone.ne_none_bool (b0 I q (by simp))
  | int j=>obtain⟨t',rfl⟩:=ry;exact PySem.EqNone.ne_none_int (b0 I q (by simp))
  | str j=>obtain⟨t',rfl⟩:=ry;exact PySem.EqNone.ne_none_str (b0 I q (by simp))
  | _=>exact absurd (show false=true from hs) YN
 | bl i =>
  cases rx;cases y with
  | non=>cases ry;exact PySem.EqNone.ne_bool_none (b0 I q (by simp))
  | bl j=>cases ry;exact ne_bool (b0 I q (congrArg not Cm))
  | str j=>obtain⟨t',rfl⟩:=ry;exact PySem.EqMixed.ne_bool_str (b0 I q (by simp))
  | _=>exact absurd (show false=true from hs) YN
 | int i =>
  obtain⟨t,rfl⟩:=rx;cases y with
  | non=>cases ry;exact PySem.EqNone.ne_int_none (b0 I q (by simp))
  | int j=>obtain⟨t',rfl⟩:=ry;exact ne_int (b0 I q (congrArg not Ck))
  | str j=>obtain⟨t',rfl⟩:=ry;exact PySem.EqMixed.ne_int_str (b0 I q (by simp))
  | _=>exact absurd (show false=true from hs) YN
 | str i =>
  obtain⟨t,rfl⟩:=rx;cases y with
  | non=>cases ry;exact PySem.EqNone.ne_str_none (b0 I q (by simp))
  | bl j=>cases ry;exact PySem.EqMixed.ne_str_bool (b0 I q (by simp))
  | int j=>obtain⟨t',rfl⟩:=ry;exact PySem.EqMixed.ne_str_int (b0 I q (by simp))
  | str j=>obtain⟨t',rfl⟩:=ry;exact ne_str (b0 I q (congrArg not Cn))
  | _=>exact absurd (show false=true from hs) YN
 | byt i =>
  obtain⟨t,rfl⟩:=rx;cases y with
  | byt j=>obtain⟨t',rfl⟩:=ry;exact PySem.W.ne_bytes (b0 I q (congrArg not Co))
  | _=>exact absurd (show false=true from hs) YN
 | _=>cases y<;>exact absurd (show false=true from hs) YN
theorem wU:aX X (Zw .Lt) (fI λi j=>.bl (decide (i<j))):=tZ λ_ _ _ _ _ _ _ q=>lt_int q
theorem eF:aX X (Zw .LtE) (fI λi j=>.bl (decide (i<=j))):=tZ λ_ _ _ _ _ _ _ q=>le_int q
theorem qe:aX X (Zw .Gt) (fI λi j=>.bl (decide (j<i))):=tZ λ_ _ _ _ _ _ _ q=>gt_int q
theorem K6:aX X (Zw .GtE) (fI λi j=>.bl (decide (j<=i))):=tZ λ_ _ _ _ _ _ _ q=>ge_int q
theorem cB(b:acg)(h:op ≠ .In:=by decide)(h2:op ≠ .NotIn:=by decide):aaG op b=false:=by
 have e1:(op == CmpOp.In)=false:=by cases op<;>first|rfl|exact absurd rfl h
 have e2:(op == CmpOp.NotIn)=false:=by cases op<;>first|rfl|exact absurd rfl h2
 cases b<;>simp[aaG,e1,e2]
theorem eG(ho:aX X (Zw op) r)(ha:PE X a ta)(hb:PE X b tb)(hm:aaG op b=false):PE X (.Compare a [op] [b] pos) (my r ta tb):=by intro pins s σ H Q I h;exact wpAny_Compare1 (wQ ha hb I h λv u s2 x y H2 I2 rx ry q=>ho pins s2 σ H2 x y v u Q I2 rx ry q) hm
def t4(t:TE):TT:=λσ H Q=>t σ H λx H'=>∃ k,x = .bl k/\Q k H'
theorem jn(ho:aX X (Zw op) r)(ha:PE X a ta)(hb:PE X b tb)(hm:aaG op b=false):PT X (.Compare a [op] [b] pos) (t4 (my r ta tb)):=by
 intro pins s σ H Q I h;refine adV (aB (ha pins s σ H _ I h) λv s1 ⟨x,H1,I1,r1,q1⟩=>aB (hb pins s1 σ H1 _ I1 q1) λu s2 ⟨y,H2,I2,r2,q2⟩ =>
  aB (ho pins s2 σ H2 x y v u _ I2 r1 r2 q2) λc s3 ⟨z,H3,I3,r3,k,e,q3⟩=>?_) hm
 subst e;cases r3;exact Zg ⟨H3,I3,q3⟩
def wV(r r':R2)(ta tb tc:TE):TE:=λσ H Q=>ta σ H λx H1=>tb σ H1 λy H2=>r x y H2 λz H3=>∃ k,z = .bl k /\
 (if k=true then tc σ H3 λw' H4=>r' y w' H4 Q else Q (.bl false) H3)
theorem Cp(ho:aX X (Zw op) r)(b7:aX X (Zw gM) r')(ha:PE X a ta)(hb:PE X b tb)(hc:PE X c tc)(hm:afC [op,gM] [b,c]=false:=by with_unfolding_all rfl):PE X (.Compare a [op,gM] [b,c] pos) (wV r r' ta tb tc):=by
 intro pins s σ H Q I h;refine Compare_chain (aB (ha pins s σ H _ I h) λv s1 ⟨x,H1,I1,r1,q1⟩=>chain_link (aB (hb pins s1 σ H1 _ I1 q1) λu s2 ⟨y,H2,I2,r2,q2⟩ =>
  aB (ho pins s2 σ H2 x y v u _ I2 r1 r2 q2) λd s3 ⟨z,H3,I3,r3,k,e,q3⟩=>?_)) hm
 subst e;cases r3;refine Zg ?_;cases k with
 | false=>exact ite_ff ⟨.bl false,H3,I3,rfl,q3⟩
 | true=>exact ite_tt (chain_last (aB (hc pins s3 σ H3 _ I3 q3) λw' s4 ⟨z',H4,I4,r4,q4⟩=>b7 pins s4 σ H4 y z' u w' Q I4 r2 r4 q4))
theorem K7(ho:aX X (Zw op) r)(b7:aX X (Zw gM) r')(ha:PE X a ta)(hb:PE X b tb)(hc:PE X c tc)(hm:afC [op,gM] [b,c]=false:=by with_unfolding_all rfl):PT X (.Compare a [op,gM] [b,c] pos) (t4 (wV r r' ta tb tc)):=by
 intro pins s σ H Q I h;refine isTrue_chain (aB (ha pins s σ H _ I h) λv s1 ⟨x,H1,I1,r1,q1⟩=>agt (aB (hb pins s1 σ H1 _ I1 q1) λu s2 ⟨y,H2,I2,r2,q2⟩ =>
  aB (ho pins s2 σ H2 x y v u _ I2 r1 r2 q2) λd s3 ⟨z,H3,I3,r3,k,e,q3⟩=>?_)) hm
 subst e;cases r3;refine Zg ?_;cases k with
 | false =>
  obtain⟨k',e',q'⟩:=q3;cases e';exact ite_ff ⟨H3,I3,q'⟩
 | true =>
  refine ite_tt (test_last (aB (hc pins s3 σ H3 _ I3 q3) λw' s4 ⟨z',H4,I4,r4,q4⟩=>aB (b7 pins s4 σ H4 y z' u w' _ I4 r2 r4 q4) λd' s5 zq=>?_));obtain⟨z2,H5,I5,r5,k2,e2,q5⟩:=zq;subst e2;cases r5;exact Zg ⟨H5,I5,q5⟩
theorem qf:(YR:Nat)<2 ^ 63:=by rw[abA];decide
theorem vals1(r:Vals [x] us):∃ u,us=[u]/\RelV x u:=by
 cases r with
 | cons r1 r2=>cases r2;exact⟨_,rfl,r1⟩
theorem vals2(r:Vals [x,y] us):∃ u w',us=[u,w']/\RelV x u/\RelV y w':=by
 cases r with
 | cons r1 r2 =>
  cases r2 with
  | cons r3 r4=>cases r4;exact⟨_,_,rfl,r1,r3⟩
theorem K8(hc:X.calm=true):dW X (.builtin "max") (λxs H Q=>∃ i j,xs=[.int i,.int j]/\Q (.int (if j > i then j else i)) H):=by
 intro pins s σ H xs us Q I r h;obtain⟨i,j,rfl,q⟩:=h;obtain⟨u,w',rfl,⟨t,rfl⟩,⟨t',rfl⟩⟩:=vals2 r;refine max_two_ints (I.ok.hd hc) λh' tk k=>⟨_,H,I.kept k,?_,q⟩
 by_cases hj:j > i
 .rw[if_pos hj,if_pos hj];exact⟨_,rfl⟩
 .rw[if_neg hj,if_neg hj];exact⟨_,rfl⟩
theorem wW(hc:X.calm=true):dW X (.builtin "min") (λxs H Q=>∃ i j,xs=[.int i,.int j]/\Q (.int (if j<i then j else i)) H):=by
 intro pins s σ H xs us Q I r h;obtain⟨i,j,rfl,q⟩:=h;obtain⟨u,w',rfl,⟨t,rfl⟩,⟨t',rfl⟩⟩:=vals2 r;refine min_two_ints (I.ok.hd hc) λh' tk k=>⟨_,H,I.kept k,?_,q⟩
 by_cases hj:j<i
 .rw[if_pos hj,if_pos hj];exact⟨_,rfl⟩
 .rw[if_neg hj,if_neg hj];exact⟨_,rfl⟩
def wX(K:Yp)(x:V)(H:Hp)(n:Nat):Prop :=
 match x with
 | .str y=>y.length<=YR/\n=y.length
 | .byt y=>y.size<=YR/\n=y.size
 | .ref p=>(∃ xs,ai K H p xs/\n=xs.length) ∨ ∃ xs,ah K H p xs/\n=xs.length
 | _=>False
theorem cV:dW X (.builtin "len") (λxs H Q=>∃ x n,xs=[x]/\wX X.K x H n/\Q (.int n) H):=by
 intro pins s σ H xs us Q I r h;obtain⟨x,n,rfl,e,q⟩:=h;obtain⟨u,rfl,rx⟩:=vals1 r;have hl:=qf;have hs:YR=16777216:=abA;cases x with
 | str y =>
  obtain⟨t,rfl⟩:=rx;obtain⟨hy,e'⟩:y.length<=YR/\n=y.length:=e;subst e';exact len_str (by omega) ⟨.int _,H,I.tok _,⟨_,rfl⟩,q⟩
 | byt y =>
  obtain⟨t,rfl⟩:=rx;obtain⟨hy,e'⟩:y.size<=YR/\n=y.size:=e;subst e';exact PySem.W.len_bytes (by omega) ⟨.int _,H,I.tok _,⟨_,rfl⟩,q⟩
 | ref p =>
  cases rx;have e':(∃ xs,ai X.K H p xs/\n=xs.length) ∨ ∃ xs,ah X.K H p xs/\n=xs.length:=e;rcases e' with ⟨xs,hx,e'⟩|⟨xs,hx,e'⟩
  .subst e';obtain⟨ao,r',pl,hz⟩:=I.list hx;have hlen:=r'.length;exact Calls.call_len_list pl.isList (by simp only[YD];omega) ⟨.int xs.length,H,I.tok _,⟨_,by simp only[YD];rw[hlen]⟩,q⟩
  .subst e';obtain⟨ao,r',pl,hz⟩:=I.tuple hx;have hlen:=r'.length;exact len_tuple pl (by simp only[YD];omega) ⟨.int xs.length,H,I.tok _,⟨_,by simp only[YD];rw[hlen]⟩,q⟩
 | _=>exact (show False from e).elim
end
structure mz(h:aaW)(x dx C:YC)(mA:Str->Option Yy):Prop where
 obj:h.get? x=some (aau C dx)
 ns:h.Ns1 dx mA
 ne:dx≠x
theorem K9{h:aaW}{dx:YC}{mA:Str->Option Yy}(n:h.Ns1 dx mA):∃ od,h.get? dx=some od/\∀ name,acS name od=some (mA name):=by
 obtain⟨o,es,ep,ho,hd,hk,_,hm⟩:=n;refine⟨o,ho,λname=>?_⟩;have e:=hm name;unfold nsFind findBy at e;rw[<- Array.find?_toList] at e;unfold acS;rw[hd];dsimp only;split
 .rename_i y q;rw[q] at e;exact congrArg some e
 .rename_i q;rw[q] at e;have a:es.toList.any (·.refKey)=false:=by rw[ae2];intro y hy;obtain⟨z,t,gj⟩:=hk y (Array.mem_toList_iff.mp hy);simp[DictEntry.refKey,gj]
  have a':¬ es.toList.any (·.refKey)=true:=by rw[a];exact YN
  rw[if_neg a'];exact congrArg some e
theorem mz.look(I:mz h x dx C mA):∃ od,PySem.W.InstAt h x (aau C dx) C (some od)/\∀ name,acS name od=some (mA name) :=
 let ⟨od,ho,hl⟩:=K9 I.ns
 ⟨od,⟨I.obj,rfl,rfl,ho⟩,hl⟩
section
variable{prog:Zo}{w:ZZ}{A:aac}{E:Yy->YB->Prop}{s:YB}{K:Yp}{x dx C f:YC}{mA:Str->Option Yy}{name:Str}{v:Yy}
theorem get_map{expr:Bool}{Q:Yy->YB->Prop}(X:K.In s.heap)(I:mz s.heap x dx C mA)(hg:aci K C name=true)(hh:ac8 K C=true)
 (ha:Y9 K (.ref C) name=some none) (hv:mA name=some v) (La:afq v=true) (h:Q v { s with toks:=s.toks+1 }) :
 YL (model prog w) A (getAttr (.ref x) name expr) Q E s:=by
 obtain⟨od,J,hl⟩:=I.look;exact PySem.W.get_value X J (acu hg).1 (PySem.W.findObj_own hh ha rfl (by rw[hl,hv])) La h
theorem Lb{pl:Sem Bool}{Q:Yy × List Yy->YB->Prop}(X:K.In s.heap)(I:mz s.heap x dx C mA)(hg:aci K C name=true)
 (hf:Y9 K (.ref C) name=some (some (.ref f))) (ht:adW K (.ref f)=true) (hv:mA name=none) (h:Q (.ref f,[.ref x]) s) :
 YL (model prog w) A (aeI (.ref x) name pl) Q E s:=by
 obtain⟨od,J,hl⟩:=I.look;exact PySem.W.method_fn X J (acu hg).1 (acu hg).2 hf (beq_iff_eq.mp ht) (by show (acS name od).map (·.isSome)=some false;rw[hl,hv];rfl) h
theorem Lc{ns:List Str}{Q:Unit->YB->Prop}(X:K.In s.heap)(I:mz s.heap x dx C mA)
 (hs:Y9 K (.ref C) "__setattr__" = some (some (.builtin "object.__setattr__"))) (hp:ae3 K C=true) (ht:adX K C name=some none) (hh:ac8 K C=true)
 (hw:afj mA ns) (hsz:ns.length<=YR)
 (h:∀ h',mz h' x dx C (λy=>if y=name then some v else mA y)->Heap.SameBut dx s.heap h'->Q () { s with heap:=h',toks:=s.toks+2 }) :
 YL (model prog w) A (setAttr (.ref x) name v) Q E s:=by
 obtain⟨od,J,hl⟩:=I.look;refine PySem.W.set_plain X J hs (PySem.W.osa_open (s:={ s with toks:=s.toks+1 }) (r:=none) X J hp ht λb=>?_);obtain⟨cd,hc,ix⟩:=PySem.W.any_some hh;have hx:s.heap.get? x=some ⟨.ref C,some dx,.plain,#[]⟩:=I.obj;refine Yo (Yu (Yo (Yo (wpAny_loadPart hx (Yo (PySem.W.Looks.here (s:={ s with toks:=s.toks+1 }) (PySem.W.looks_clsIn X hc) ?_))))));rw[ix];refine Yu (a:=some dx) (Yo (Yu (Yo ?_)));refine wpAny_nsSet1 (s:={ s with toks:=s.toks+1 }) I.ns λh' Cq cA=>?_;obtain⟨oD,X2,X3,Ld,Le,Lf⟩:=Cq.count (PySem.Within.cons name v hw);refine Yo (wpAny_lookBehind Ld (by rw[Le];exact pastItsLine_dict (Yw Lf (by rw[Zn];omega))) ?_);exact Yu (h _ ⟨(cA.2 _ (Zj I.ne)).trans I.obj,Cq,I.ne⟩ cA)
theorem Lg{R:aeJ->YB->Prop}{vs:List Yy}{kw:List (Str × Yy)}(X:K.In s.heap)(hm:abM K C=true)
 (hi:Y9 K (.ref C) "__init__" = some (some (.ref f))) (hf:acT K (.ref f)=some (.type "function"))
 (h:abb (model prog w) (A.under (.builtin "type.__call__" ⟨.ref C::vs,kw⟩)) (.call (.ref f) ⟨.ref (s.heap.objs.size+1)::vs,kw⟩) (PySem.W.InitBack (s.heap.objs.size+1) R)
   { s with heap:=(s.heap.push ZU).push (aau C s.heap.objs.size) }) :
 abb (model prog w) A (.call (.ref C) ⟨vs,kw⟩) R s:=by
 obtain⟨hh,g,d,t,os⟩:=s;exact PySem.W.make_core (PySem.W.makes_of X hm) (PySem.W.looks_findIn X hi) (λself=>PySem.W.bind_fn X self hf) (.inl rfl) h
end
noncomputable def eI(f:Str)(v:V):List (Str × V)->List (Str × V)
 | []=>[(f,v)]
 | (g,x)::r=>if g=f then (g,v)::r else (g,x)::eI f v r
theorem Cr(f g:Str)(v:V):∀ fs:List (Str × V),(eI f v fs).lookup g=if g=f then some v else fs.lookup g
 | []=>by
  show abB g [(f,v)]=_;by_cases h:g=f
  .have hb:(g == f)=true:=beq_iff_eq.mpr h;simp only[abB,hb,if_pos h]
  .have hb:(g == f)=false:=beq_eq_false_iff_ne.mpr h;simp only[abB,hb,if_neg h]
 | (k,x)::r=>by
  have ih:=Cr f g v r;rw[show eI f v ((k,x)::r)=(if k=f then (k,v)::r else (k,x)::eI f v r) from rfl];by_cases hk:k=f
  .rw[if_pos hk];by_cases h:g=k
   .have hb:(g == k)=true:=beq_iff_eq.mpr h;simp only[abB,hb,if_pos (h.trans hk)]
   .have hb:(g == k)=false:=beq_eq_false_iff_ne.mpr h;simp only[abB,hb,if_neg (λe:g=f=>h (e.trans hk.symm))]
  .rw[if_neg hk];by_cases h:g=k
   .have hb:(g == k)=true:=beq_iff_eq.mpr h;simp only[abB,hb,if_neg (λe:g=f=>hk (h.symm.trans e))]
   .have hb:(g == k)=false:=beq_eq_false_iff_ne.mpr h;simp only[abB,hb];exact ih
theorem wY(f:Str)(v:V):∀ fs:List (Str × V),f∈(eI f v fs).map (·.1)/\∀ g,g∈fs.map (·.1)->g∈(eI f v fs).map (·.1)
 | []=>⟨by simp[eI],λg h=>by simp at h⟩
 | (k,x)::r=>by
  obtain⟨i1,i2⟩:=wY f v r;rw[show eI f v ((k,x)::r)=(if k=f then (k,v)::r else (k,x)::eI f v r) from rfl];by_cases hk:k=f
  .rw[if_pos hk];subst hk;exact⟨by simp,λg h=>by simpa using h⟩
  .rw[if_neg hk];refine⟨?_,λg h=>?_⟩
   .rw[YV];exact Zh _ i1
   .rw[YV] at h ⊢;rcases YK.mp h with e|e
    .exact YK.mpr (.inl e)
    .exact Zh _ (i2 g e)
theorem Cs(f:Str)(v:V):∀ fs:List (Str × V),(eI f v fs).length<=fs.length+1
 | []=>by simp[eI]
 | (k,x)::r=>by
  have ih:=Cs f v r;rw[show eI f v ((k,x)::r)=(if k=f then (k,v)::r else (k,x)::eI f v r) from rfl];by_cases hk:k=f
  .rw[if_pos hk,Zn,Zn];omega
  .rw[if_neg hk,Zn,Zn];omega
theorem eU.some_of(r:eU (some v) o):∃ u,o=some u/\RelV v u:=by
 cases o with
 | none=>exact (show False from r).elim
 | some u=>exact⟨u,rfl,r⟩
theorem eU.none_of(r:eU none o):o=none:=by
 cases o with
 | none=>rfl
 | some u=>exact (show False from r).elim
theorem Lh(r:RelV v u):afq u=true:=by
 cases v with
 | non=>cases (show u=Value.none from r);rfl
 | bl b=>cases (show u=Z3 b from r);rfl
 | int i=>obtain⟨t,e⟩:=(show ∃ t,u=aaO i t from r);cases e;rfl
 | str x=>obtain⟨t,e⟩:=(show ∃ t,u=aeB x t from r);cases e;rfl
 | byt b=>obtain⟨t,e⟩:=(show ∃ t,u=agF b t from r);cases e;rfl
 | flt b=>obtain⟨t,e⟩:=(show ∃ t,u=afA b t from r);cases e;rfl
 | ref a=>cases (show u=YU a from r);rfl
 | ty n=>cases (show u=ac4 n from r);rfl
section
theorem t5(ay:bK P w H h)(e:H a=some (.ins C dx fs)):∃ mA,mz h a dx C mA/\(∀ f,eU (fs.lookup f) (mA f))/\afj mA (fs.map (·.1))/\fs.length<=1000/\H dx=some (.own a):=by
 obtain⟨d,z,ne,ob,mA,n,r,q⟩:=(show br P w H h a (.ins C dx fs) from ay a _ e)
 exact⟨mA,⟨ob,n,ne⟩,r,q,z,d⟩
end
structure dj(K:Yp)(C:YC):Prop where
 pg:aci K C Str.empty=true
 hd:ac8 K C=true
 po:ae3 K C=true
 sa:Y9 K (.ref C) "__setattr__" = some (some (.builtin "object.__setattr__"))
theorem dj.get{K:Yp}{C:YC}(c:dj K C)(f:Str):aci K C f=true:=c.pg
def cT(K:Yp)(C:YC)(f:Str):Prop:=Y9 K (.ref C) f=some none
theorem cT.Li{K:Yp}{C:YC}{f:Str}(n:cT K C f):adX K C f=some none:=by unfold adX;rw[show Y9 K (.ref C) f=some none from n];rfl
structure Meth(K:Yp)(C:YC)(m:Str)(f:YC):Prop where
 at_:Y9 K (.ref C) m=some (some (.ref f))
 fn:adW K (.ref f)=true
 kp:aaa K (.ref f)=true
section
theorem Lj(I:Inv X pins σ H s)(e:H a=some (.ins C dx fs))(c:dj X.K C)(n:cT X.K C f)(l:fs.lookup f=some v)(h:∀ u s',Inv X pins σ H s'->RelV v u->Q u s'):YL (model X.prog X.w) A (getAttr (.ref a) f b) Q E s:=by obtain⟨mA,O,r,_,_,_⟩:=t5 I.ay e;obtain⟨u,hu,ru⟩:=eU.some_of (v:=v) (o:=mA f) (by rw[<- l];exact r f);exact get_map I.bY O (c.get f) c.hd n hu (Lh ru) (h u _ (I.tok _) ru)
theorem Ct(I:Inv X pins σ H s)(e:H a=some (.ins C dx fs))(c:dj X.K C)(k:Meth X.K C m g)(l:fs.lookup m=none)(h:Q (.ref g,[.ref a]) s):YL (model X.prog X.w) A (aeI (.ref a) m pl) Q E s:=by obtain⟨mA,O,r,_,_,_⟩:=t5 I.ay e;have hn:mA m=none:=eU.none_of (by rw[<- l];exact r m);exact Lb I.bY O (c.get m) k.at_ k.fn hn h
theorem Ll(I:Inv X pins σ H s)(e:H a=some (.ins C dx fs))(c:dj X.K C)(n:cT X.K C f)(hl:fs.length<1000)(ry:RelV y u)(h:∀ s',Inv X pins σ (upd H a (.ins C dx (eI f y fs))) s'->Q () s'):YL (model X.prog X.w) A (setAttr (.ref a) f u) Q E s:=by
 obtain⟨mA,O,r,wi,_,ho⟩:=t5 I.ay e;have hz:(fs.map (·.1)).length<=YR:=by rw[Yq,abA];omega
 refine Lc I.bY O c.sa c.po n.Li c.hd wi hz λh' O' sb=>h _ ?_;have hd:∃ o,h'.get? dx=some o:=let ⟨o,_,_,e',_⟩:=O'.ns;⟨o,e'⟩;refine I.write (x:=a) (e:=dx) (by rw[e];exact aaP) (.inr ho) (λb q hb z=>(sb.2 b hb).trans z) hd ?_;refine⟨by rw[aD O.ne];exact ho,?_,O.ne,O'.obj,_,O'.ns,λg=>?_,λg hg=>?_⟩
 .have:=Cs f y fs;omega
 .show eU ((eI f y fs).lookup g) (if g=f then some u else mA g);rw[Cr];by_cases q:g=f
  .rw[if_pos q,if_pos q];exact ry
  .rw[if_neg q,if_neg q];exact r g
 .by_cases q:g=f
  .rw[q];exact (wY f y fs).1
  .refine (wY f y fs).2 g (wi g λz=>hg ?_);show (if g=f then some u else mA g)=none;rw[if_neg q];exact z
theorem Inv.made(I:Inv X pins σ H s):Inv X pins σ (upd (upd H s.heap.objs.size (.own (s.heap.objs.size+1))) (s.heap.objs.size+1) (.ins C s.heap.objs.size []))
 { s with heap:=(s.heap.push ZU).push (aau C s.heap.objs.size) }:=by
 have e1:(s.heap.push ZU).get? s.heap.objs.size=some ZU:=YA s.heap rfl;have e2:((s.heap.push ZU).push (aau C s.heap.objs.size)).get? (s.heap.objs.size+1)=some (aau C s.heap.objs.size):=by
  have:=YA (s.heap.push ZU) (o:=aau C s.heap.objs.size) rfl
  rwa [aab] at this
 have e3:(s.heap.push ZU).Ns s.heap.objs.size (λ_=>none):=⟨ZU,#[],_,e1,rfl,(λe he=>absurd he (by simp)),λ_=>rfl⟩
 have I1:=I.laid (a:=s.heap.objs.size) (o:=.own (s.heap.objs.size+1)) (h':=s.heap.push ZU) (t':=s.toks) (λb u q=>Yt _ q) (Yz _) ⟨_,e1⟩;refine I1.laid (a:=s.heap.objs.size+1) (o:=.ins C s.heap.objs.size []) (t':=s.toks) (λb u q=>Yt _ q) (agu (aab _ _)) ?_;have ne:s.heap.objs.size≠s.heap.objs.size+1:=YH (abt _);refine⟨by rw[aD ne,ax],YS _,ne,e2,λ_=>none,(Heap.Ns1.of_empty e3).at λo q=>Yt _ q,λ_=>aaP,λy hy=>absurd rfl hy⟩
theorem Lm(hb:abN e f env (eval e env)=eval e env)(h:YL (model prog w) A (eval e env) (λo s₁=>YL (model prog w) A (getAttr o f true) Q E s₁) E s):YL (model prog w) A (eval (.Attribute e f pos) env) Q E s :=
 Attribute_any_ h (by rw[arm_eval_Attribute,hb])
end
def Cu(K:Yp)(ta:TE)(f:Str):TE:=λσ H Q=>ta σ H λx H1=>∃ a C dx fs v,x = .ref a/\H1 a=some (.ins C dx fs)/\dj K C/\cT K C f/\fs.lookup f=some v/\Q v H1
def Cv(K:Yp)(ta tv:TE)(f:Str):TS:=λD σ H=>tv σ H λy H1=>ta σ H1 λx H2=>∃ a C dx fs,x = .ref a/\H2 a=some (.ins C dx fs)/\dj K C/\cT K C f/\fs.length<1000 /\
 D.nx σ (upd H2 a (.ins C dx (eI f y fs)))
section
theorem Ln(he:PE X e ta)(hb:abN e f X.env (eval e X.env)=eval e X.env):PE X (.Attribute e f pos) (Cu X.K ta f):=by
 intro pins s σ H Q I h;refine Lm hb (aB (he pins s σ H _ I h) λu s1 zq=>?_);obtain⟨x,H1,I1,rx,a,C,dx,fs,v,ex,ea,c,n,l,q⟩:=zq;subst ex;obtain rfl:u=YU a:=rx;exact Lj I1 ea c n l λu' s2 I2 ru=>⟨v,H1,I2,ru,q⟩
theorem Lo(ha:PE X o ta)(hv:PE X value tv)(hs:acr value (some (.Attribute o f pos')) pos.line X.env=pure false):PS X (.Assign [.Attribute o f pos'] value pos) (Cv X.K ta tv f):=by
 intro pins s σ H D I h;refine plainObj_wpAny_Assign_Attribute (aB (hv pins s σ H _ I h) λu s1 ⟨y,H1,I1,ry,q⟩=>aB (ha pins s1 σ H1 _ I1 q) λov s2 zq=>?_) hs;obtain⟨x,H2,I2,rx,a,C,dx,fs,ex,ea,c,n,l,q2⟩:=zq;subst ex;obtain rfl:ov=YU a:=rx;exact Ll I2 ea c n l ry λs3 I3=>⟨σ,_,I3,q2⟩
inductive cW(K:Yp)(H:Hp):V->Yy->Prop where
 | non:cW K H .non (.type "NoneType")
 | bl (x:Bool):cW K H (.bl x) (.type "bool")
 | int (i:Int):cW K H (.int i) (.type "int")
 | str (x:Str):cW K H (.str x) (.type "str")
 | flt (x:UInt64):cW K H (.flt x) (.type "float")
 | lst {a:YC} {xs:List V} (e:H a=some (.lst xs)):cW K H (.ref a) (.type "list")
 | aQ {a:YC} {o:Obj} {xs:List V} (e:H a=some (.aQ o (.lst xs))):cW K H (.ref a) (.type "list")
 | tup {a:YC} {xs:List V} (e:H a=some (.tup xs)):cW K H (.ref a) (.type "tuple")
 | dK {a:YC} {kvs:List (Key × V)} (e:H a=some (.dK kvs)):cW K H (.ref a) (.type "dict")
 | dT {a:YC} {kvs:List (List Key × V)} (e:H a=some (.dT kvs)):cW K H (.ref a) (.type "dict")
 | ins {a C dx:YC} {fs:List (Str × V)} (e:H a=some (.ins C dx fs)) (cl:dj K C) (ha:Y9 K (.ref C) "__class__" = some (some (.builtin "object.__class__")))
  (hn:ac9 K (.builtin "object.__class__") "__get__" = some (some (.builtin "getset_descriptor.__get__"))) (Cw:PySem.W.takesIn K (.builtin "object.__class__")=some true)
  (hm:PySem.W.mroIn K C (.type "object")=some true):cW K H (.ref a) (.ref C)
theorem Lp(I:Inv X pins σ H s)(rx:RelV x u)(ty:cW X.K H x t)(e:Zq X.K t c=some b)(h:∀ tk,Q (.bool b) { s with toks:=tk }) :
 YL (model X.prog X.w) A (call (.builtin "isinstance") [u,c]) Q E s:=by
 cases ty with
 | non=>cases (show u=Value.none from rx);exact ZG PySem.W.kitx_none I.bY aaP e (λz=>nomatch z) h
 | bl y=>cases (show u=Z3 y from rx);exact ZG PySem.W.kitx_bool I.bY aaP e (λz=>nomatch z) h
 | int i=>obtain⟨t,q⟩:=(show ∃ t,u=aaO i t from rx);cases q;exact ZG PySem.W.kitx_int I.bY aaP e (λz=>nomatch z) h
 | str y=>obtain⟨t,q⟩:=(show ∃ t,u=aeB y t from rx);cases q;exact ZG PySem.W.kitx_str I.bY aaP e (λz=>nomatch z) h
 | flt y=>obtain⟨t,q⟩:=(show ∃ t,u=afA y t from rx);cases q;exact ZG PySem.W.kitx_float I.bY aaP e (λz=>nomatch z) h
 | @lst a xs ea =>
  cases (show u=YU a from rx);obtain⟨_,_,n,_,h1⟩:=(show br X.prog X.w H s.heap a (.lst xs) from I.ay a _ ea)
  exact ZG ae4 I.bY ⟨_,h1,rfl⟩ e (λz=>nomatch z) h
 | @aQ a ob xs ea =>
  cases (show u=YU a from rx);obtain⟨_,_,_,n,_,h1⟩:=(show br X.prog X.w H s.heap a (.aQ ob (.lst xs)) from I.ay a _ ea)
  exact ZG ae4 I.bY ⟨_,h1,rfl⟩ e (λz=>nomatch z) h
 | @tup a xs ea =>
  cases (show u=YU a from rx);obtain⟨_,_,_,p⟩:=(show br X.prog X.w H s.heap a (.tup xs) from I.ay a _ ea)
  obtain⟨o,h1,h2,_⟩:=p;exact ZG PySem.W.kitx_tuple I.bY ⟨o,h1,h2⟩ e (λz=>nomatch z) h
 | @dK a kvs ea =>
  cases (show u=YU a from rx);obtain⟨_,_,vs,_,p⟩:=(show br X.prog X.w H s.heap a (.dK kvs) from I.ay a _ ea)
  obtain⟨o,es,ep,h1,h2,_⟩:=p;exact ZG ae5 I.bY ⟨o,h1,h2.1⟩ e (λz=>nomatch z) h
 | @dT a kvs ea =>
  cases (show u=YU a from rx);obtain⟨_,_,xs,_,o,es,ep,h1,h2,_⟩:=(show br X.prog X.w H s.heap a (.dT kvs) from I.ay a _ ea)
  exact ZG ae5 I.bY ⟨o,h1,h2.1⟩ e (λz=>nomatch z) h
 | @ins a C dx fs ea cl ha hn Cw hm =>
  cases (show u=YU a from rx);obtain⟨mA,O,_⟩:=t5 I.ay ea;obtain⟨od,J,_⟩:=O.look;exact ZG (PySem.W.kitx_own (cl.get _) cl.hd ha hn Cw hm) I.bY J e (λz=>nomatch z) h
end
structure bN(k:Nat)(A:aac):Prop where
 hd:A.handled=none
 dp:A.depth+3 * k+5<recursionLimit
 un:A.units+16 * k+200<acv
theorem bN.mono(r:bN k A)(h:j<=k):bN j A:=⟨r.hd,by have:=r.dp;omega,by have:=r.un;omega⟩
theorem bN.deeper(r:bN (k+1) A)(env:Env):bN k (A.deeper env) :=
 ⟨r.hd,by have:=r.dp;show A.depth+1+3 * k+5<_;omega,by have:=r.un;show A.units+3+16 * k+200<_;omega⟩
theorem Lq{A:aac}{C:YC}{us:List Yy}{kw:List (Str × Yy)}:(A.under (.builtin "type.__call__" ⟨.ref C::us,kw⟩)).depth=A.depth+1:=by
 first|rfl|simp[afl,Code.weight,Code.isCreation,Code.isGuard,Code.isCaller,Code.frames,Code.isFrame,guardIds]
theorem Lr{A:aac}{C:YC}{us:List Yy}{kw:List (Str × Yy)}:(A.under (.builtin "type.__call__" ⟨.ref C::us,kw⟩)).units=A.units+1:=by
 first|rfl|simp[afl,Code.cUnits,Code.frames,Code.isFrame]
theorem bN.make(r:bN (k+1) A)(C:YC)(us:List Yy)(kw:List (Str × Yy)):bN k (A.under (.builtin "type.__call__" ⟨.ref C::us,kw⟩)) :=
 ⟨r.hd,by have:=r.dp;rw[Lq];omega,by have:=r.un;rw[Lr];omega⟩
theorem bN.depth(r:bN k A):A.depth<recursionLimit:=by have:=r.dp;omega
theorem bN.units(r:bN k A):A.units+64<acv:=by have:=r.un;omega
def qg:TA:=λ_ H Q=>Q [] H
def t6(ta:TE)(tr:TA):TA:=λσ H Q=>ta σ H λx H1=>tr σ H1 λxs H2=>Q (x::xs) H2
section
theorem ag:PA X [] qg:=λ_ _ _ _ H Q I h=>aas ⟨[],H,I,.nil,h⟩
theorem ae(ha:PE X e te)(hr:PA X es t)(hs:YQ (e::es) X.env=(false,eval e X.env)::YQ es X.env:=by rfl):PA X (e::es) (t6 te t):=by
 intro pos pins s σ H Q I h;rw[hs];show YL _ _ (spliced ((false,eval e X.env)::aap pos (YQ es X.env))) _ _ s;refine aae (aB (ha pins s σ H _ I h) λu s1 zq=>?_);obtain⟨x,H1,I1,r1,q1⟩:=zq;exact aB (hr pos pins s1 σ H1 _ I1 q1) λus s2 ⟨xs,H2,I2,r2,q2⟩=>⟨x::xs,H2,I2,.cons r1 r2,q2⟩
def Cy(t:TA):TE:=λσ H Q=>t σ H λxs H1=>xs.length<=YR/\∀ p,H1 p=none->Q (.ref p) (upd H1 p (.tup xs))
def Cz(t:TA):TE:=λσ H Q=>t σ H λxs H1=>xs.length<=YR/\∀ p,H1 p=none->Q (.ref p) (upd H1 p (.lst xs))
theorem aS(h:PA X es t):PE X (.Tuple es x1 pos) (Cy t):=by intro pins s σ H Q I hq;refine wpAny_Tuple_spliced (aB (h pos pins s σ H _ I hq) λus s1 ⟨xs,H1,I1,r,z,q⟩=>⟨by rw[<- r.length];exact z,?_⟩);have hf:H1 s1.heap.objs.size=none:=I1.ay.fresh (Yz _);refine⟨.ref s1.heap.objs.size,upd H1 s1.heap.objs.size (.tup xs),I1.laid (t':=s1.toks) (λb u e=>Yt _ e) (Yz _) ?_,rfl,q _ hf⟩;exact⟨z,us,r,⟨_,YA _ rfl,rfl,_,rfl⟩⟩
theorem cX(h:PA X es t):PE X (.List es pos) (Cz t):=by intro pins s σ H Q I hq;refine wpAny_List_spliced (aB (h pos pins s σ H _ I hq) λus s1 ⟨xs,H1,I1,r,z,q⟩=>⟨by rw[<- r.length];exact z,?_⟩);have hf:H1 s1.heap.objs.size=none:=I1.ay.fresh (Yz _);refine⟨.ref s1.heap.objs.size,upd H1 s1.heap.objs.size (.lst xs),I1.laid (t':=s1.toks) (λb u e=>Yt _ e) (Yz _) ?_,rfl,q _ hf⟩;exact⟨z,us,0,r,YA _ rfl⟩
end
abbrev Sp:=List V->Hp->VK->XK->Prop
abbrev gk:=List Env->Hp->YB->XK->Yy->YB->Prop
structure mC(P:Zo)(w:ZZ)(K:Yp)(mg:Str->Option Yy)(base:aaW)(A:aac)(outer:List Env)(s:YB)(H:Hp):Prop where
 frames:A.frames=some outer
 mod:Mod K mg base
 bs:∀ b o,base.get? b=some o->s.heap.get? b=some o/\H b=none
 bsz:base.objs.size<=s.heap.objs.size
 fo:s.heap.FunFrames base outer
 frf:∀ b∈aU outer,H b=none
 ay:bK P w H s.heap
 bare:adU s.gens
def CE(outer:List Env)(P:Zo)(w:ZZ)(H:Hp)(s:YB)(Q:VK)(u:Yy)(s':YB):Prop :=
 ∃ v H',s'.os=s.os/\adU s'.gens/\Un (aU outer) [] H H' s.heap s'.heap/\bK P w H' s'.heap/\RelV v u/\Q v H'
def CR(CX:gk)(outer:List Env)(P:Zo)(w:ZZ)(H:Hp)(s:YB)(Q:VK)(E:XK)(r:aeJ)(s':YB):Prop :=
 match r with
 | .ok (.ret u)=>CE outer P w H s Q u s'
 | .ok _=>False
 | .error e=>CX outer H s E e s'
structure dX(P:Zo)(w:ZZ)(K:Yp)(mg:Str->Option Yy)(base:aaW)(CX:gk)(k:Nat)(f:YC)(fd:abu)(ps:List Str)(sp:Sp):Prop where
 len:∀ vs H Q E,sp vs H Q E->vs.length=ps.length
 run:∀ (A:aac) (outer:List Env) (s:YB) (H:Hp) (args:Args) (us:List Yy) (vs:List V) (Q:VK) (E:XK),bN k A->mC P w K mg base A outer s H->ae6 s fd args (ps.zip us)->Vals vs us->sp vs H Q E ->
  abb (model P w) A (.call (.ref f) args) (CR CX outer P w H s Q E) s
theorem mC.make{P:Zo}{w:ZZ}{K:Yp}{mg:Str->Option Yy}{base:aaW}{A:aac}{outer:List Env}{s:YB}{H:Hp}(e:mC P w K mg base A outer s H)(C:YC)(us:List Yy)(kw:List (Str × Yy)) :
 mC P w K mg base (A.under (.builtin "type.__call__" ⟨.ref C::us,kw⟩)) outer s H:=⟨by first|exact e.frames|(simpa [afl,Code.envs,Code.isFrame,pushEnvs] using e.frames),e.mod,e.bs,e.bsz,e.fo,e.frf,e.ay,e.bare⟩
section
theorem Inv.CA(I:Inv X pins σ H s):mC X.prog X.w X.K X.mg X.base X.A X.stack s H :=
 ⟨I.ok.frames,I.ok.mod,I.bs,Yw I.ok.bsz I.sz,I.stack,I.nK,I.ay,I.bare⟩
theorem Inv.after(I:Inv X pins σ H s)(h:CE X.stack X.prog X.w H s Q u s'):EP X pins σ Q u s':=by obtain⟨v,H',os,bare,un,ay,r,q⟩:=h;obtain⟨hh,g,d,t,nT⟩:=s';obtain rfl:nT=s.os:=os;exact⟨v,H',I.call (h':=hh) (g':=g) (d':=d) (t':=t) (ch:=[]) un ay bare (λb z=>absurd z (by simp)),r,q⟩
end
def qh(sp:Sp)(cY:List V)(E:XK)(t:TA):TE:=λσ H Q=>t σ H λvs H1=>sp (vs++cY) H1 Q E
def wZ(C:YC)(m:Str)(sp:Sp)(cY:List V)(E:XK)(ta:TE)(t:TA):TE:=λσ H Q=>ta σ H λx H1=>∃ a dx fs,x = .ref a/\H1 a=some (.ins C dx fs)/\fs.lookup m=none /\
 t σ H1 λvs H2=>sp (x::(vs++cY)) H2 Q E
def CB(C:YC)(sp:Sp)(cY:List V)(E:XK)(t:TA):TE:=λσ H Q=>t σ H λvs H1=>∀ x dx,H1 x=none->H1 dx=none->dx≠x ->
 sp (.ref x::(vs++cY)) (upd (upd H1 dx (.own x)) x (.ins C dx [])) (λv H2=>v = .non/\Q (.ref x) H2) E
def Binds(K:Yp)(fd:abu)(ps:List Str)(ds:List Yy):Prop :=
 ∀ (s:YB) (us:List Yy),K.In s.heap->(us++ds).length=ps.length->ae6 s fd ⟨us,[]⟩ (ps.zip (us++ds))
theorem Binds.all{K:Yp}{fd:abu}{ps:List Str}(h:∀ us:List Yy,us.length=ps.length->bindArgs fd ⟨us,[]⟩=pure (ps.zip us)):Binds K fd ps []:=λs us _ hl=>by rw[afD] at hl ⊢;exact .of_eq (h us hl)
def Passes(CX:gk)(X:Cx)(E:XK):Prop:=∀ (pins:List (YC × Obj)) (σ:St) (H:Hp) (s:YB) (e:Yy) (s':YB),Inv X pins σ H s->CX X.stack H s E e s'->X.xe e s'
section
theorem t7(F:dX X.prog X.w X.K X.mg X.base CX k f fd ps sp)(hr:bN k X.A)(hb:Binds X.K fd ps ds)(hd:Vals cY ds)(hx:Passes CX X E)(I:Inv X pins σ H s)(r:Vals vs us)(h:sp (vs++cY) H Q E):YL (model X.prog X.w) X.A (call (.ref f) us) (EP X pins σ Q) X.xe s:=by
 have r2:Vals (vs++cY) (us++ds):=r.append hd;have hl:(us++ds).length=ps.length:=by rw[<- r2.length];exact F.len _ _ _ _ h
 refine ae7 (ab7 (F.run X.A X.stack s H ⟨us,[]⟩ (us++ds) (vs++cY) Q E hr I.CA (hb s us I.bY hl) r2 h) λr s' hq=>?_);cases r with
 | error e=>exact hx pins σ H s e s' I hq
 | ok fl =>
  cases fl with
  | ret u=>exact I.after hq
  | next=>exact aaE hq
  | brk=>exact aaE hq
  | cont=>exact aaE hq
theorem bC(F:dX X.prog X.w X.K X.mg X.base CX k f fd ps sp)(hr:bN k X.A)(hg:Gl X x)(hm:X.mg x=some (.ref f))(hk:aaa X.K (.ref f)=true)(hb:Binds X.K fd ps ds)(hd:Vals cY ds)(hx:Passes CX X E)(ha:PA X (e::es) t)(fu:(x == ("__debug__" : Str))=false:=by decide)(he:YQ (e::es) X.env=(false,eval e X.env)::YQ es X.env:=by rfl)(dM:(aap pos (YQ es X.env)).any (·.1)=false:=by rfl) :
 PE X (.Call (.Name x p) (e::es) [] pos) (qh sp cY E t):=by
 intro pins s σ H Q I h;refine ZP (pU I hg hm ?_ fu);refine abO (h₀:=X.base) I.ok.mod.kin hk (aB (ha pos pins s σ H _ I h) λus s1 ⟨vs,H1,I1,r,q⟩=>⟨I1.bY,?_⟩) he dM;exact t7 F hr hb hd hx I1 r q
theorem jo(he:PE X o ta)(c:dj X.K C)(hm:Meth X.K C m f)(F:dX X.prog X.w X.K X.mg X.base CX k f fd ps sp)(hr:bN k X.A)(hb:Binds X.K fd ps ds)(hd:Vals cY ds)(hx:Passes CX X E)(ha:PA X (e::es) t)(cn:YQ (e::es) X.env=(false,eval e X.env)::YQ es X.env:=by rfl)(dM:(aap pos (YQ es X.env)).any (·.1)=false:=by rfl)(ht:eval (.Call (.Attribute o m apos) (e::es) [] pos) X.env=(do
 let ov <- eval o X.env
 afB apos.atName
 let (f,first) <- holding [ov] (aeI ov m pl)
 callWith pos f first (aap pos (YQ (e::es) X.env)) (aeK pos (acw [] X.env))):=by rfl) :
 PE X (.Call (.Attribute o m apos) (e::es) [] pos) (wZ C m sp cY E ta t):=by
 intro pins s σ H Q I h;refine ab8 (pl:=pl) (aB (he pins s σ H _ I h) λu s1 zq=>?_) ht;obtain⟨x,H1,I1,rx,a,dx,fs,ex,ea,l,q⟩:=zq;subst ex;obtain rfl:u=YU a:=rx;refine Ct I1 ea c hm l ?_;refine abO (first:=[.ref a]) (h₀:=X.base) I.ok.mod.kin hm.kp (aB (ha pos pins s1 σ H1 _ I1 q) λus s2 ⟨vs,H2,I2,r,q2⟩=>⟨I2.bY,?_⟩) cn dM;exact t7 (us:=.ref a::us) (vs:=.ref a::vs) F hr hb hd hx I2 (.cons rfl r) q2
theorem mD(he:PE X o ta)(c:dj X.K C)(hm:Meth X.K C m f)(F:dX X.prog X.w X.K X.mg X.base CX k f fd ps sp)(hr:bN k X.A)(hb:Binds X.K fd ps ds)(hd:Vals cY ds)(hx:Passes CX X E)(ht:eval (.Call (.Attribute o m apos) [] [] pos) X.env=(do
 let ov <- eval o X.env
 afB apos.atName
 let (f,first) <- holding [ov] (aeI ov m pl)
 callWith pos f first (aap pos (YQ [] X.env)) (aeK pos (acw [] X.env))):=by rfl) :
 PE X (.Call (.Attribute o m apos) [] [] pos) (wZ C m sp cY E ta qg):=by
 intro pins s σ H Q I h;refine ab8 (pl:=pl) (aB (he pins s σ H _ I h) λu s1 zq=>?_) ht;obtain⟨x,H1,I1,rx,a,dx,fs,ex,ea,l,q⟩:=zq;subst ex;obtain rfl:u=YU a:=rx;refine Ct I1 ea c hm l ?_;exact PySem.W.callWith_K0 (first:=[.ref a]) I1.bY hm.kp (t7 (us:=[.ref a]) (vs:=[.ref a]) F hr hb hd hx I1 (.cons rfl .nil) q)
structure Mk(K:Yp)(C f:YC):Prop where
 makes:abM K C=true
 init:Y9 K (.ref C) "__init__" = some (some (.ref f))
 fn:adW K (.ref f)=true
 kp:aaa K (.ref C)=true
theorem Ls(M:Mk X.K C f)(F:dX X.prog X.w X.K X.mg X.base CX k f fd ps sp)(hr:bN (k+1) X.A)(hb:Binds X.K fd ps ds)(hd:Vals cY ds)(hx:Passes CX X E)(I:Inv X pins σ H s)(r:Vals vs us)(h:∀ x dx,H x=none->H dx=none->dx≠x->sp (.ref x::(vs++cY)) (upd (upd H dx (.own x)) x (.ins C dx [])) (λv H2=>v = .non/\Q (.ref x) H2) E) :
 YL (model X.prog X.w) X.A (call (.ref C) us) (EP X pins σ Q) X.xe s:=by
 have hq:=h (s.heap.objs.size+1) s.heap.objs.size (I.ay.fresh (acx _)) (I.ay.fresh (Yz _)) (YH (abt _));have I2:=Inv.made (C:=C) I;have r2:Vals (V.ref (s.heap.objs.size+1)::(vs++cY)) (YU (s.heap.objs.size+1)::(us++ds)):=.cons rfl (r.append hd);have hl:(YU (s.heap.objs.size+1)::us++ds).length=ps.length:=by have e:=r2.length;rw[F.len _ _ _ _ hq] at e;exact e.symm
 refine ae7 (Lg (f:=f) I.bY M.makes M.init (beq_iff_eq.mp M.fn) (ab7 (F.run _ X.stack _ _ ⟨YU (s.heap.objs.size+1)::us,[]⟩ (YU (s.heap.objs.size+1)::(us++ds)) _ _ E (hr.make C us [])
  (I2.CA.make C us []) (hb _ (YU (s.heap.objs.size+1)::us) I2.bY hl) r2 hq) λr s' qi=>?_))
 cases r with
 | error e=>exact hx pins σ _ _ e s' I2 qi
 | ok fl =>
  cases fl with
  | ret u =>
   obtain⟨v,H',I3,rv,ev,q3⟩:=I2.after qi;subst ev;exact⟨rv,⟨V.ref (s.heap.objs.size+1),H',I3,rfl,q3⟩⟩
  | next=>exact aaE qi
  | brk=>exact aaE qi
  | cont=>exact aaE qi
theorem t8(M:Mk X.K C f)(F:dX X.prog X.w X.K X.mg X.base CX k f fd ps sp)(hr:bN (k+1) X.A)(hg:Gl X x)(hm:X.mg x=some (.ref C))(hb:Binds X.K fd ps ds)(hd:Vals cY ds)(hx:Passes CX X E)(ha:PA X (e::es) t)(fu:(x == ("__debug__" : Str))=false:=by decide)(he:YQ (e::es) X.env=(false,eval e X.env)::YQ es X.env:=by rfl)(dM:(aap pos (YQ es X.env)).any (·.1)=false:=by rfl) :
 PE X (.Call (.Name x p) (e::es) [] pos) (CB C sp cY E t):=by
 intro pins s σ H Q I h;refine ZP (pU I hg hm ?_ fu);refine abO (h₀:=X.base) I.ok.mod.kin M.kp (aB (ha pos pins s σ H _ I h) λus s1 ⟨vs,H1,I1,r,q⟩=>⟨I1.bY,?_⟩) he dM;exact Ls M F hr hb hd hx I1 r q
end
structure qj(N P:List Str)(sc:adH):Prop where
 kind:sc.kind = .function
 co:sc.isCoroutine=false
 gen:sc.isGenerator=false
 nd:N.Nodup
 pre:N.take P.length=P
 par:∀ x∈P,sc.names.lookup x=some .local∨sc.names.lookup x=some .cell
 nofree:∀ y∈sc.names,y.2 ≠ .free
theorem CC{ada:Str->Option adq}{x:Str}:∀ {binds:List (Str × Yy)} {m:Str->Option Yy},(∀ v,(x,v)∉binds)->agH ada binds m x=m x
 | [],_,_=>rfl
 | (n,v)::r,m,h=>by
  unfold agH;rw[CC λw hw=>h w (Zh _ hw)];split
  .have:x≠n:=by rintro rfl;exact h v aa7
   simp[this]
  .rfl
theorem CD{ada:Str->Option adq}{x:Str}:∀ {binds:List (Str × Yy)} {m:Str->Option Yy},(∀ v,(x,v)∉binds)->agI ada binds m x=m x
 | [],_,_=>rfl
 | (n,v)::r,m,h=>by
  unfold agI;rw[CD λw hw=>h w (Zh _ hw)];split
  .rfl
  .have:x≠n:=by rintro rfl;exact h v aa7
   simp[this]
theorem CF{ada:Str->Option adq}{x:Str}{v:Yy}:∀ {P:List Str} {vs:List Yy} {i:Nat} {m:Str->Option Yy},P.Nodup->P[i]?=some x->vs[i]?=some v->ada x=some .local ->
 agH ada (P.zip vs) m x=some v
 | [],_,_,_,_,h,_,_=>by simp at h
 | _::_,[],_,_,_,_,h,_=>by simp at h
 | p::P,w::vs,0,m,nd,h1,h2,hk=>by simp at h1 h2;subst h1;subst h2;show agH ada ((p,w)::P.zip vs) m p=_;unfold agH;rw[CC λv hv=>(ZC.mp nd).1 (adY hv).1,if_pos hk];simp
 | p::P,w::vs,i+1,m,nd,h1,h2,hk=>by show agH ada ((p,w)::P.zip vs) m x=_;unfold agH;exact CF (i:=i) (ZC.mp nd).2 (by simpa using h1) (by simpa using h2) hk
theorem CG{ada:Str->Option adq}{x:Str}{v:Yy}:∀ {P:List Str} {vs:List Yy} {i:Nat} {m:Str->Option Yy},P.Nodup->P[i]?=some x->vs[i]?=some v->ada x≠some .local ->
 agI ada (P.zip vs) m x=some v
 | [],_,_,_,_,h,_,_=>by simp at h
 | _::_,[],_,_,_,_,h,_=>by simp at h
 | p::P,w::vs,0,m,nd,h1,h2,hk=>by simp at h1 h2;subst h1;subst h2;show agI ada ((p,w)::P.zip vs) m p=_;unfold agI;rw[CD λv hv=>(ZC.mp nd).1 (adY hv).1,if_neg hk];simp
 | p::P,w::vs,i+1,m,nd,h1,h2,hk=>by show agI ada ((p,w)::P.zip vs) m x=_;unfold agI;exact CG (i:=i) (ZC.mp nd).2 (by simpa using h1) (by simpa using h2) hk
noncomputable def start(N:List Str)(vs:List V):St:=vs.map some++aaL (N.length-vs.length) none
noncomputable def eJ(CX:gk)(P:Zo)(w:ZZ)(K:Yp)(mg:Str->Option Yy)(base:aaW)(N:List Str)(qual:Str)(scope:adH)(f:YC)(cd:Yy)(A:aac)(outer:List Env)(s:YB)(H:Hp)(E:XK):Cx where
 prog:=P
 w:=w
 K:=K
 mg:=mg
 base:=base
 A:=A.deeper (aaf qual scope s.heap.objs.size f cd)
 N:=N
 s₀:=s
 H₀:=H
 env:=aaf qual scope s.heap.objs.size f cd
 outer:=outer
 stack:=aaf qual scope s.heap.objs.size f cd::outer
 ex:=[]
 calm:=true
 fn:=λ_=>true
 pn:=[]
 xe:=λe s'=>YL (model P w) (A.deeper (aaf qual scope s.heap.objs.size f cd)) (leaving (aaf qual scope s.heap.objs.size f cd) e) (λ_ qk=>CX outer H s E e qk) (λe' qk=>CX outer H s E e' qk) s'
theorem CH{sc:adH}{n:Nat}{x:Str}(h:sc.names.lookup x=some .cell):∃ c,(cellsFrom n sc.names []).lookup x=some c:=by have q:=adK sc.names n [] (.inl h);exact aaQ.mp q
theorem Lu{CX:gk}{P:Zo}{w:ZZ}{K:Yp}{mg:Str->Option Yy}{base:aaW}{N ps:List Str}{qual:Str}{scope:adH}{f:YC}{cd:Yy}{A:aac}{outer:List Env}{s s1:YB}{H:Hp}{E:XK}{us:List Yy}{vs:List V}
 (S:qj N ps scope) (hd:A.handled=none) (e0:mC P w K mg base A outer s H) (hl:vs.length=ps.length) (r:Vals vs us)
 (x:InCallC s s.heap.objs.size (agH (aaf qual scope s.heap.objs.size f cd).kindOf (ps.zip us) λ_=>none) (cellsFrom (s.heap.objs.size+1) scope.names []) (agI (aaf qual scope s.heap.objs.size f cd).kindOf (ps.zip us) λ_=>none) s1) :
 Inv (eJ CX P w K mg base N qual scope f cd A outer s H E) [] (start N vs) H s1:=by
 have dM:ps.length<=N.length:=by have:=congrArg List.length S.pre;rw[aaF] at this;omega
 obtain⟨h1,tk,rfl,hk⟩:=x.done;have gn:∀ b:YC,b∉(eJ CX P w K mg base N qual scope f cd A outer s H E).ex:=λb z=>absurd (show b∈([]:List YC) from z) (by simp);refine⟨⟨e0.mod,S.kind,rfl,rfl,Yz _,λy z c h1 h2=>?_,λy hy=>?_,λy c _ h=>?_,λ_=>hd,Around.frames_deeper e0.frames,.inr ⟨rfl,rfl⟩,λb z=>absurd z (gn b),e0.bs,e0.bsz,λb _ _=>gn b,λb z=>absurd z (gn b),e0.fo,e0.frf⟩,
  rfl,e0.bare,Un.kept hk,⟨_,x.toInCall.ns,λi y v h1 h2 h3=>?_⟩,λy c h=>⟨_,x.cell y c h⟩,e0.ay.fresh (Yz _),λy c h=>?_,λp hp=>absurd (show p∈([]:List (YC × Obj)) from hp) (by simp),e0.ay.kept hk,?_⟩
 .exact name_of_addr x.apart (aav h1) (aav h2)
 .have hy:scope.names.lookup y=some .cell∨scope.names.lookup y=some .free:=hy;rcases hy with hy|hy
  .exact CH hy
  .exact absurd rfl (S.nofree _ (aav hy))
 .exact ab6 (x.above y c (aav h))
 .have hi:i<vs.length:=by
   unfold start at h2;by_cases hi:i<vs.length
   .exact hi
   .rw[Zz (by simpa using hi)] at h2;rw[aaZ] at h2;split at h2<;>cases h2
  have ha:vs[i]?=some v:=by
   unfold start at h2;rw[Zl (by simpa using hi),YG] at h2;cases e:vs[i]? with
   | none=>rw[e] at h2;cases h2
   | some a=>rw[e] at h2;cases h2;rfl
  obtain⟨u,hu,rv⟩:=r.get ha;have hp:ps[i]?=some y:=by rw[<- S.pre,List.getElem?_take_of_lt (by omega)];exact h1
  have CI:ps.Nodup:=by rw[<- S.pre];exact S.nd.sublist (List.take_sublist _ _)
  refine⟨u,rv,?_⟩;rcases S.par y (YF hp) with k|k
  .exact .inl ⟨k,CF CI hp hu k⟩
  .obtain⟨c,e⟩:=CH (n:=s.heap.objs.size+1) k;refine .inr ⟨.inl k,c,e,?_⟩;have q:=x.cell y c e;rw[CG CI hp hu (by show scope.names.lookup y≠_;rw[k];decide)] at q;exact q
 .exact e0.ay.fresh (ab6 (x.above y c (aav h)))
 .unfold start;show _=N.length;rw[YO,Yq,ab9];omega
theorem CJ{CX:gk}{P:Zo}{w:ZZ}{K:Yp}{mg:Str->Option Yy}{base:aaW}{k:Nat}{f:YC}{name qual:Str}{params:Arguments}{body:List aaj}{scope:adH}{dV kV doc pm aV ct oc:Yy}{an od:Option YC}
 {jq:Array (Option Yy)} {N ps:List Str} {sp:Sp} (lk:K.lookup f=some ⟨oc,od,.func (abc name qual params body scope dV kV doc pm an aV ct),jq⟩) (fq:acU K aV qual=true) (S:qj N ps scope)
 (len:∀ vs H Q E,sp vs H Q E->vs.length=ps.length)
 (gp:∀ (A:aac) (outer:List Env) (s:YB) (H:Hp) (vs:List V) (Q:VK) (E:XK),bN k (A.deeper (aaf qual scope s.heap.objs.size f aV))->sp vs H Q E ->
   ∃ t,aM (eJ CX P w K mg base N qual scope f aV A outer s H E) body t/\t { nx:=λ_ H'=>Q .non H',rt:=Q } (start N vs) H) :
 dX P w K mg base CX (k+1) f (abc name qual params body scope dV kV doc pm an aV ct) ps sp:=by
 refine⟨len,λA outer s H args us vs Q E hr e0 hb r k7=>?_⟩;have hl:=len _ _ _ _ k7;have KX:K.In s.heap:=e0.mod.kin.keeps λb o e=>(e0.bs b o e).1;have lim:s.heap.NoLimit:=e0.mod.nolimit.keeps λb o e=>(e0.bs b o e).1;have Lv:∀ y∈ps.zip us,scope.names.lookup y.1=some .local∨(scope.names.lookup y.1=some .cell/\((cellsFrom (s.heap.objs.size+1) scope.names []).lookup y.1).isSome=true):=λ⟨n,v⟩ hy=>by
  rcases S.par n (adY hy).1 with q|q
  .exact .inl q
  .exact .inr ⟨q,adK _ _ _ (.inl q)⟩
 refine codeAny_call_function hr.depth (KX _ _ lk) rfl S.co S.gen rfl (PySem.W.codeRec_of KX fq) (hb _ _ _ _ ?_);refine wpAny_newFunctionEnv_cells S.kind Lv λenv he s1 x=>?_;subst he;refine⟨lim.keeps x.toInCall.keep,codeAny_func ?_⟩;obtain⟨t,ht,hq⟩:=gp A outer s H vs Q E (hr.deeper _) k7;have I:Inv (eJ CX P w K mg base N qual scope f aV A outer s H E) [] (start N vs) H s1:=Lu S hr.hd e0 hl r x;refine ZD (ht [] s1 (start N vs) H _ I hq) (λfl s' hs=>?_) λe s' hs=>hs;have fin:∀ {σ':St} {H':Hp} {v:V} {u:Yy},Inv (eJ CX P w K mg base N qual scope f aV A outer s H E) [] σ' H' s'->RelV v u->Q v H'->CE outer P w H s Q u s' :=
  λ{σ' H' v u} J rv q=>⟨v,H',J.os,J.bare,J.base,J.ay,rv,q⟩
 cases fl with
 | ret u =>
  obtain⟨v,σ',H',J,rv,q⟩:=hs;exact fin J rv q
 | next =>
  obtain⟨σ',H',J,q⟩:=hs;exact fin (v:=V.non) (u:=Value.none) J rfl q
 | brk =>
  obtain⟨_,_,_,q⟩:=hs;exact aaE q
 | cont =>
  obtain⟨_,_,_,q⟩:=hs;exact aaE q
section
variable{X:Cx}{x:Str}{p pos:Pos}{e:acg}{es:List acg}{t:TA}{id T:String}{r:List V->Hp->VK->Prop}
def w5(r:List V->Hp->VK->Prop)(t:TA):TE:=λσ H Q=>t σ H λvs H1=>r vs H1 Q
theorem aZ(hc:dW X (.builtin id) r)(hg:Gl X x)(hm:X.mg x=none)(hv:Zf x=some (.builtin id))(ha:PA X (e::es) t)(hn:x ≠ "__name__" := by decide)(fu:(x == ("__debug__" : Str))=false:=by decide)(he:YQ (e::es) X.env=(false,eval e X.env)::YQ es X.env:=by rfl)(dM:(aap pos (YQ es X.env)).any (·.1)=false:=by rfl):PE X (.Call (.Name x p) (e::es) [] pos) (w5 r t):=by intro pins s σ H Q I h;refine ZP (eX I hg hm hv ?_ hn fu);exact aaX (aB (ha pos pins s σ H _ I h) λus s1 ⟨vs,H1,I1,r1,q1⟩=>hc pins s1 σ H1 vs us Q I1 r1 q1) he dM
theorem CK(hc:dW X (.type T) r)(hg:Gl X x)(hm:X.mg x=none)(hv:Zf x=some (.type T))(ha:PA X (e::es) t)(hn:x ≠ "__name__" := by decide)(fu:(x == ("__debug__" : Str))=false:=by decide)(he:YQ (e::es) X.env=(false,eval e X.env)::YQ es X.env:=by rfl)(dM:(aap pos (YQ es X.env)).any (·.1)=false:=by rfl):PE X (.Call (.Name x p) (e::es) [] pos) (w5 r t):=by intro pins s σ H Q I h;refine ZP (eX I hg hm hv ?_ hn fu);exact Y7 (aB (ha pos pins s σ H _ I h) λus s1 ⟨vs,H1,I1,r1,q1⟩=>hc pins s1 σ H1 vs us Q I1 r1 q1) he dM
end
end L2
namespace HT
open PySem PyProof.Rows
noncomputable def lexLt:List Int->List Int->Bool
 | [],[]=>false
 | [],_::_=>true
 | _::_,[]=>false
 | x::xs,y::ys=>if x=y then lexLt xs ys else decide (x<y)
theorem nU(x y:Int)(xs ys:List Int):lexLt (x::xs) (y::ys)=if x=y then lexLt xs ys else decide (x<y):=rfl
section
open PySem.SeqAt
open PySem.AutoSeq1 (wpAny_loadPart')
open PySem.MeetsSeq PySem.MeetsSeq2 PySem.MeetsSeq3
end
section
noncomputable def eK(n d:Nat):Option Int->Nat
 | none=>d
 | some v=>if v<0 then (v+(n:Int)).toNat else min v.toNat n
theorem Lw(n d:Nat):eK n d none=d:=rfl
theorem w6(n d k:Nat):eK n d (some (k:Int))=min k n:=by show (if (k:Int)<0 then ((k:Int)+(n:Int)).toNat else min (k:Int).toNat n)=min k n;rw[if_neg (by omega),Zm]
end
end HT
namespace L2
open PySem PySem.Spec PyProof.Rows
abbrev TO:=St->Hp->(Option Int->Hp->Prop)->Prop
def PO(X:Cx)(e:Option acg)(t:TO):Prop :=
 ∀ (pins:List (YC × Obj)) (s:YB) (σ:St) (H:Hp) (Q:Option Int->Hp->Prop),Inv X pins σ H s->t σ H Q ->
  YL (model X.prog X.w) X.A (evalPart e X.env) (λu s'=>∃ o H',Inv X pins σ H' s'/\IsPart u o/\Q o H') X.xe s
noncomputable def CL:TO:=λ_ H Q=>Q none H
noncomputable def CM(t:TE):TO:=λσ H Q=>t σ H λx H1=>∃ i,x = .int i/\Q (some i) H1
theorem intsAre_of:∀ {us:List Yy},Vals (ns.map V.int) us->ads us ns:=by
 induction ns with
 | nil=>intro us r;rw[acN] at r;cases r;exact .nil
 | cons n ns ih =>
  intro us r;rw[YV] at r;cases r with
  | cons r1 r2 =>
   obtain⟨t,e⟩:=r1;subst e;exact .cons n t (ih r2)
section
variable{X:Cx}{e:acg}{te:TE}{lo hi:Option acg}{tl th:TO}{pos p2:Pos}
theorem Lx:PO X none CL:=by intro pins s σ H Q I h;rw[aeL];exact Yu ⟨none,H,I,.none,h⟩
theorem w9(h:PE X e te):PO X (some e) (CM te):=by intro pins s σ H Q I hw;rw[evalPart_some];refine aB (h pins s σ H _ I hw) λu s1 zq=>?_;obtain⟨x,H1,I1,r1,q1⟩:=zq;obtain⟨i,rfl,q⟩:=q1;obtain⟨t,rfl⟩:=r1;exact⟨some i,H1,I1,.int i t,q⟩
def CN(X:Cx)(r:V->Option Int->Option Int->Hp->VK->Prop):Prop :=
 ∀ (pins:List (YC × Obj)) (s:YB) (σ:St) (H:Hp) (x:V) (v vl vu:Yy) (lo hi:Option Int) (sl:YC) (Q:VK),Inv X pins σ H s->RelV x v->s.heap.IsSliceOf sl vl vu .none->IsPart vl lo->IsPart vu hi->r x lo hi H Q ->
  ∃ T id,ae8 (.type T) "__getitem__" = pure (some (.builtin id))/\s.TypeIs v T/\YL (model X.prog X.w) X.A (afE v (.ref sl)) (EP X pins σ Q) X.xe s
def CO(r:V->Option Int->Option Int->Hp->VK->Prop)(te:TE)(tl th:TO):TE:=λσ H Q=>te σ H λx H1=>tl σ H1 λl H2=>th σ H2 λu H3=>r x l u H3 Q
theorem CP{r:V->Option Int->Option Int->Hp->VK->Prop}(hr:CN X r)(he:PE X e te)(hl:PO X lo tl)(hu:PO X hi th):PE X (.Subscript e (.Slice lo hi none p2) pos) (CO r te tl th):=by intro pins s σ H Q I h;refine ae9 (aB (he pins s σ H _ I h) λv s1 zq=>?_);obtain⟨x,H1,I1,r1,q1⟩:=zq;refine wpAny_Slice (aB (hl pins s1 σ H1 _ I1 q1) λvl s2 ⟨l,H2,I2,pl,q2⟩=>aB (hu pins s2 σ H2 _ I2 q2) λvu s3 zq=>?_);obtain⟨u,H3,I3,pu,q3⟩:=zq;rw[aeL];refine Yu ?_;have I4:Inv X pins σ H3 { s3 with heap:=s3.heap.push { cls:=.type "slice",data:=.fields #[vl,vu,.none] } }:=I3.kept (t':=s3.toks) λb ob q=>Yt _ q;obtain⟨T,id,hT,ht,hg⟩:=hr pins { s3 with heap:=s3.heap.push { cls:=.type "slice",data:=.fields #[vl,vu,.none] } } σ H3 x v vl vu l u s3.heap.objs.size Q I4 r1 (Heap.IsSliceOf.new ..) pl pu q3;show YL (model X.prog X.w) X.A (adt e (.Slice lo hi none p2) v (.ref s3.heap.objs.size)) (EP X pins σ Q) X.xe { s3 with heap:=s3.heap.push { cls:=.type "slice",data:=.fields #[vl,vu,.none] } };exact tail_any (ops:=[.ref s3.heap.objs.size,v]) ht hT hg (by with_unfolding_all rfl)
noncomputable def jr(xs:List V)(lo hi:Option Int):List V:=(xs.drop (HT.eK xs.length 0 lo)).take (HT.eK xs.length xs.length hi-HT.eK xs.length 0 lo)
theorem Ly(xs:List V)(lo hi:Option Int):(jr xs lo hi).length<=xs.length:=by unfold jr;rw[aaF,abv];omega
end
noncomputable def iz(n:Nat)(i:Int):Option Nat:=if 0<=i then (if i<n then some i.toNat else none) else if -(n:Int)<=i then some (i+n).toNat else none
noncomputable def cC{α:Type}(xs:List α)(i:Int):Option α:=(iz xs.length i).bind λj=>xs[j]?
theorem CQ(h:iz n i=some j):seqIndex? i n=some j/\j<n/\-(n:Int)<=i/\i<n:=by
 unfold iz at h;by_cases h0:0<=i
 .rw[if_pos h0] at h;by_cases h1:i<n
  .rw[if_pos h1] at h;have e:i.toNat=j:=Option.some.inj h;exact⟨by rw[afF h0 h1,e],by omega,by omega,h1⟩
  .rw[if_neg h1] at h;cases h
 .rw[if_neg h0] at h;by_cases h1 : -(n:Int)<=i
  .rw[if_pos h1] at h;have e:(i+n).toNat=j:=Option.some.inj h;exact⟨by rw[afm (by omega) h1,e],by omega,h1,by omega⟩
  .rw[if_neg h1] at h;cases h
theorem xa(h:cC xs i=some v):∃ j,seqIndex? i xs.length=some j/\xs[j]?=some v/\j<xs.length/\-(xs.length:Int)<=i/\i<xs.length:=by
 unfold cC at h;cases e:iz xs.length i with
 | none=>rw[e] at h;cases h
 | some j =>
  rw[e] at h;obtain⟨h1,h2,h3,h4⟩:=CQ e;exact⟨j,h1,h,h2,h3,h4⟩
theorem cZ{α:Type}{xs:List α}{j:Nat}{v:α}(h:xs[j]?=some v):cC xs (j:Int)=some v:=by
 have hj:j<xs.length:=(Yx.mp h).1;have e:iz xs.length (j:Int)=some j:=by unfold iz;rw[if_pos (by omega),if_pos (by omega)];simp
 unfold cC;rw[e];exact h
theorem xb(xs:List α)(v:α):cC (xs++[v]) (-1)=some v:=by
 have hl:(xs++[v]).length=xs.length+1:=by simp
 have e:iz (xs++[v]).length (-1)=some xs.length:=by
  unfold iz;rw[hl,if_neg (by decide),if_pos (by omega)]
  congr 1
  omega
 unfold cC;rw[e];show (xs++[v])[xs.length]?=some v;simp
def xf(b:acg):Prop:=∀ o i,subscripted b false o i=operate [o,i] (afE o i)
def jt(X:Cx)(r:R2):Prop :=
 ∀ (value slice:acg) (pins:List (YC × Obj)) (s:YB) (σ:St) (H:Hp) (x y:V) (v u:Yy) (Q:VK),Inv X pins σ H s->RelV x v->RelV y u->r x y H Q ->
  subscripted slice false v u=operate [v,u] (afE v u)->YL (model X.prog X.w) X.A (adt value slice v u) (EP X pins σ Q) X.xe s
def CS(X:Cx)(id:String)(r:V->List V->Hp->VK->Prop):Prop :=
 ∀ (pins:List (YC × Obj)) (s:YB) (σ:St) (H:Hp) (x:V) (xs:List V) (v:Yy) (us:List Yy) (Q:VK),Inv X pins σ H s->RelV x v->Vals xs us->r x xs H Q ->
  YL (model X.prog X.w) X.A (call (.builtin id) (v::us)) (EP X pins σ Q) X.xe s
section
variable{X:Cx}{a b:acg}{ta tb:TE}{pos:Pos}
theorem jt.or(h:jt X r)(h':jt X r'):jt X (λx y H Q=>r x y H Q∨r' x y H Q):=by
 intro value slice pins s σ H x y v u Q I rx ry q hs;rcases q with q|q
 .exact h value slice pins s σ H x y v u Q I rx ry q hs
 .exact h' value slice pins s σ H x y v u Q I rx ry q hs
theorem bb(hr:jt X r)(ha:PE X a ta)(hb:PE X b tb)(hs:xf b):PE X (.Subscript a b pos) (my r ta tb):=by intro pins s σ H Q I h;exact ae9 (wQ ha hb I h λv u s2 x y H2 I2 rx ry q=>hr a b pins s2 σ H2 x y v u Q I2 rx ry q (hs _ _))
def CT(K:Yp):R2:=λx y H Q=>∃ p xs i v,x = .ref p/\y = .int i/\ai K H p xs/\cC xs i=some v/\Q v H
def CU(K:Yp):R2:=λx y H Q=>∃ p xs i v,x = .ref p/\y = .int i/\ah K H p xs/\cC xs i=some v/\Q v H
def CV:R2:=λx y H Q=>∃ z i c,x = .str z/\y = .int i/\z.length<=YR/\cC z.cps.toList i=some c/\Q (.str ⟨#[c]⟩) H
theorem Lz:jt X (CT X.K):=by
 intro value slice pins s σ H x y v u Q I rx ry h hs;obtain⟨p,xs,i,z,rfl,rfl,hq,he,q⟩:=h;cases rx;obtain⟨t,rfl⟩:=ry;obtain⟨ao,r,pl,hz⟩:=I.list hq;obtain⟨j,h1,h2,h3,h4,h5⟩:=xa he;obtain⟨w,ew,iA⟩:=r.get h2;have hl:=r.length;have hn:=qf;have fin:EP X pins σ Q w s:=⟨z,H,I,iA,q⟩
 by_cases h0:0<=i
 .have hj:i.toNat=j:=by rw[afF h0 h5] at h1;exact Option.some.inj h1
  exact item_listR pl.isList h0 (by omega) (by rw[hj];simpa using ew) fin hs
 .have hj:(i+(ao.toArray.size:Int)).toNat=j:=by rw[afm (by omega) h4] at h1;rw[YD,<- hl];exact Option.some.inj h1
  exact adL (x:=w) pl.isList.typeIs slot_list_getitem.lookup
   (wpAny_getItem_list_neg (Q:=λr s'=>r=w/\EP X pins σ Q r s') pl.isList (by omega) (by rw[YD]<;>omega) (by omega) (by rw[hj];simpa using ew) ⟨rfl,fin⟩) hs
theorem LA:jt X (CU X.K):=by
 intro value slice pins s σ H x y v u Q I rx ry h hs;obtain⟨p,xs,i,z,rfl,rfl,hq,he,q⟩:=h;cases rx;obtain⟨t,rfl⟩:=ry;obtain⟨ao,r,pl,hz⟩:=I.tuple hq;obtain⟨j,h1,h2,h3,h4,h5⟩:=xa he;obtain⟨w,ew,iA⟩:=r.get h2;have hl:=r.length;have hn:=qf;have fin:EP X pins σ Q w s:=⟨z,H,I,iA,q⟩
 exact adL (x:=w) pl.typeIs slot_tuple_getitem.lookup
  (getItem_tuple (j:=j) (Q:=λr s'=>r=w/\EP X pins σ Q r s') pl (by omega) (by omega) (by rw[YD,<- hl];exact h1) (by simpa using ew) ⟨rfl,fin⟩) hs
theorem LB:jt X CV:=by
 intro value slice pins s σ H x y v u Q I rx ry h hs;obtain⟨z,i,c,rfl,rfl,hz,he,q⟩:=h;obtain⟨t,rfl⟩:=rx;obtain⟨t',rfl⟩:=ry;obtain⟨j,h1,h2,h3,h4,h5⟩:=xa he;have hl:z.cps.toList.length=z.length:=by simp[Str.length]
 rw[hl] at h1 h4 h5;have hn:=qf;exact tail_any (typeIs_str s z t) slot_str_getitem.lookup (getItem_str (c:=c) (by
  have e1:decide (i < -(2 ^ 63:Int))=false:=decide_eq_false (by omega);have e2:decide (i ≥ 2 ^ 63)=false:=decide_eq_false (by omega);rw[e1,e2,Bool.or_false]) (by rw[h1];simpa using h2) ⟨.str ⟨#[c]⟩,H,I.tok _,⟨_,rfl⟩,q⟩) hs
def kf(K:Yp):R2:=λx y H Q=>CT K x y H Q∨CU K x y H Q∨CV x y H Q
theorem bc:jt X (kf X.K):=Lz.or (LA.or LB)
theorem LC(ao:List Yy)(n j:Nat)(u:Yy):ZM (·.setIfInBounds j u) { cls:=.type "list",data:=.seq ao.toArray n } = { cls:=.type "list",data:=.seq (ao.set j u).toArray n }:=by simp[ZM]
theorem Inv.lst(I:Inv X pins σ H s)(h:H p=some (.lst xs)) :
 ∃ (ao:List Yy) (n:Nat),Vals xs ao/\s.heap.get? p=some { cls:=.type "list",data:=.seq ao.toArray n }/\xs.length<=YR:=by
 obtain⟨z,ao,n,r,e⟩:=I.ay p _ h;exact⟨ao,n,r,e,z⟩
theorem Inv.LD{pins:List (YC × Obj)}{σ:St}{H:Hp}{s:YB}{p:YC}{xs ys:List V}{ao its':List Yy}{n n':Nat}{f:Obj->Obj}(I:Inv X pins σ H s)(h:H p=some (.lst xs))
 (ho:s.heap.get? p=some { cls:=.type "list",data:=.seq ao.toArray n }) (hf:f { cls:=.type "list",data:=.seq ao.toArray n } = { cls:=.type "list",data:=.seq its'.toArray n' }) (r:Vals ys its') (hz:ys.length<=YR) (t:Nat) :
 Inv X pins σ (upd H p (.lst ys)) { s with heap:=s.heap.update p f,toks:=t }:=by
 have e:(s.heap.update p f).get? p=some { cls:=.type "list",data:=.seq its'.toArray n' }:=by rw[Ze f ho (by rw[hf]<;>rfl),hf]
 refine I.write (x:=p) (e:=p) (by rw[h];trivial) (.inl rfl) (λb u hb q=>(YM _ _ (Zj hb)).trans q) ⟨_,e⟩ ?_;exact⟨hz,its',n',r,e⟩
def CW:V->V->V->Hp->(Hp->Prop)->Prop:=λo i v H Q=>∃ p xs k j,o = .ref p/\i = .int k/\H p=some (.lst xs)/\iz xs.length k=some j/\Q (upd H p (.lst (xs.set j v)))
theorem set_list:Cb X CW:=by
 intro pins s σ H o i v ov iv u Q I ro ri rv h;obtain⟨p,xs,k,j,rfl,rfl,hp,hj,q⟩:=h;cases ro;obtain⟨t,rfl⟩:=ri;obtain⟨ao,n,r,ho,hz⟩:=I.lst hp;obtain⟨h1,h2,h3,h4⟩:=CQ hj;have hl:=r.length;have hn:=qf;have I':Inv X pins σ (upd H p (.lst (xs.set j v))) { s with heap:=s.heap.update p (ZM (·.setIfInBounds j u)) } :=
  I.LD hp ho (LC ao n j u) (r.set rv j) (by rw[adZ];exact hz) s.toks
 by_cases h0:0<=k
 .have hk:k.toNat=j:=by rw[afF h0 h4] at h1;exact Option.some.inj h1
  exact PySem.W.ki_setAt ho h0 (by omega) (by rw[YD,<- hl];exact h4) (by rw[hk];exact⟨_,I',q⟩)
 .have hk:(k+(ao.toArray.size:Int)).toNat=j:=by rw[afm (by omega) h3] at h1;rw[YD,<- hl];exact Option.some.inj h1
  exact PySem.W.ki_setBack ho (by omega) (by rw[YD,<- hl];exact h3) (by omega) (by rw[hk];exact⟨_,I',q⟩)
theorem LF(lo hi:Option Int)(n:Nat):(abC lo hi none n).1=((HT.eK n 0 lo:Nat):Int)/\(abC lo hi none n).2.1=((HT.eK n n hi:Nat):Int)/\(abC lo hi none n).2.2=1:=by
 refine⟨?_,?_,rfl⟩
 .cases lo with
  | none=>simp[abC,HT.eK]
  | some i =>
   simp only[abC,HT.eK,Option.getD_none,show (1:Int) > 0 by decide,if_true];by_cases h:i<0
   .simp only[h,if_true]<;>omega
   .simp only[h,if_false]<;>omega
 .cases hi with
  | none=>simp[abC,HT.eK]
  | some i =>
   simp only[abC,HT.eK,Option.getD_none,show (1:Int) > 0 by decide,if_true];by_cases h:i<0
   .simp only[h,if_true]<;>omega
   .simp only[h,if_false]<;>omega
theorem LG(ao:List Yy)(lo hi:Option Int):afG ao.toArray lo hi none=((ao.drop (HT.eK ao.length 0 lo)).take (HT.eK ao.length ao.length hi-HT.eK ao.length 0 lo)).toArray:=by obtain⟨h1,h2,h3⟩:=LF lo hi ao.toArray.size;unfold afG;rw[h1,h2,h3];simp only[sliceRange_one,pick_run,YD]<;>rfl
def CY(K:Yp):V->Option Int->Option Int->Hp->VK->Prop:=λx lo hi H Q=>∃ a xs,x = .ref a/\ai K H a xs/\∀ p,H p=none->Q (.ref p) (upd H p (.lst (jr xs lo hi)))
theorem CZ:CN X (CY X.K):=by intro pins s σ H x v vl vu lo hi sl Q I rx hs pl pu h;obtain⟨a,xs,rfl,hx,q⟩:=h;cases rx;obtain⟨ao,r,ht,hz⟩:=I.list hx;have hlen:=r.length;refine⟨"list",_,slot_list_getitem.lookup,ht.isList.typeIs,?_⟩;refine adb ht.isList hs pl pu .none (by simp) ?_ (by rw[YD]<;>omega);rw[LG,<- hlen];refine⟨.ref s.heap.objs.size,_,I.laid (t':=s.toks) (o:=.lst (jr xs lo hi)) (λb ob q=>Yt _ q) (Yz _) ?_,rfl,q _ (I.ay.fresh (Yz _))⟩;exact⟨Yw (Ly xs lo hi) hz,_,0,(r.drop (HT.eK xs.length 0 lo)).take (HT.eK xs.length xs.length hi-HT.eK xs.length 0 lo),YA _ rfl⟩
noncomputable def kg:V->Bool
 | .non=>true
 | .bl _=>true
 | .int _=>true
 | .str _=>true
 | _=>false
noncomputable def k8:V->V->Bool
 | .non,.non=>true
 | .bl a,.bl b=>a == b
 | .bl a,.int b=>(if a then 1 else 0) == b
 | .int a,.bl b=>a == (if b then 1 else 0)
 | .int a,.int b=>a == b
 | .str a,.str b=>a == b
 | _,_=>false
theorem LH(ry:RelV y u)(rx:RelV x v)(fy:kg y=true)(fx:kg x=true):SeqAt.EqAt A s u v (k8 y x):=by
 cases y with
 | non =>
  cases ry;cases x with
  | non=>cases rx;exact SeqAt.EqAt.same _
  | bl b=>cases rx;exact SeqAt.EqAt.none_bool b
  | int b=>obtain⟨t,rfl⟩:=rx;exact SeqAt.EqAt.none_int b t
  | str b=>obtain⟨t,rfl⟩:=rx;exact SeqAt.EqAt.none_str b t
  | _=>exact absurd (show false=true from fx) YN
 | bl a =>
  cases ry;cases x with
  | non=>cases rx;exact SeqAt.EqAt.bool_none a
  | bl b=>cases rx;exact SeqAt.EqAt.bool_bool a b
  | int b=>obtain⟨t,rfl⟩:=rx;exact SeqAt.EqAt.bool_int a b t
  | str b=>obtain⟨t,rfl⟩:=rx;exact SeqAt.EqAt.bool_str a b t
  | _=>exact absurd (show false=true from fx) YN
 | int a =>
  obtain⟨t',rfl⟩:=ry;cases x with
  | non=>cases rx;exact SeqAt.EqAt.int_none a t'
  | bl b=>cases rx;exact SeqAt.EqAt.int_bool a t' b
  | int b=>obtain⟨t,rfl⟩:=rx;exact SeqAt.EqAt.int_int a t' b t
  | str b=>obtain⟨t,rfl⟩:=rx;exact SeqAt.EqAt.int_str a t' b t
  | _=>exact absurd (show false=true from fx) YN
 | str a =>
  obtain⟨t',rfl⟩:=ry;cases x with
  | non=>cases rx;exact SeqAt.EqAt.str_none a t'
  | bl b=>cases rx;exact SeqAt.EqAt.str_bool a t' b
  | int b=>obtain⟨t,rfl⟩:=rx;exact SeqAt.EqAt.str_int a t' b t
  | str b=>obtain⟨t,rfl⟩:=rx;exact SeqAt.EqAt.str_str a t' b t
  | _=>exact absurd (show false=true from fx) YN
 | _=>exact absurd (show false=true from fy) YN
noncomputable def fv(x:V)(u:Yy):Bool:=match u with
 | .none=>k8 .non x
 | .bool b=>k8 (.bl b) x
 | .int i _=>k8 (.int i) x
 | .str z _=>k8 (.str z) x
 | _=>false
theorem C0(r:RelV y u)(f:kg y=true):fv x u=k8 y x:=by
 cases y with
 | non=>cases r;rfl
 | bl b=>cases r;rfl
 | int i=>obtain⟨t,rfl⟩:=r;rfl
 | str z=>obtain⟨t,rfl⟩:=r;rfl
 | _=>exact absurd (show false=true from f) YN
theorem ql:∀ {xs:List V} {us:List Yy},Vals xs us->xs.all kg=true->us.any (fv x)=xs.any λy=>k8 y x
 | _,_,.nil,_=>rfl
 | y::xs,u::us,.cons r t,f=>by rw[agg,Z5] at f;rw[ZN,ZN,C0 r f.1,ql t f.2]
theorem qm(rx:RelV x v)(fx:kg x=true):∀ {xs:List V} {us:List Yy},Vals xs us->xs.all kg=true->∀ u∈us,SeqAt.EqAt A s u v (fv x u)
 | _,_,.nil,_=>λu hu=>by cases hu
 | y::xs,u::us,.cons r t,f=>λu' hu=>by
  rw[agg,Z5] at f;rcases YK.mp hu with rfl|hu
  .rw[C0 r f.1];exact LH r rx f.1 fx
  .exact qm rx fx t f.2 u' hu
noncomputable def t9(x:V)(xs:List V):Bool:=xs.any λy=>k8 y x
def xg(K:Yp)(neg:Bool):R2:=λx y H Q=>∃ p xs,y = .ref p/\(ai K H p xs∨ah K H p xs)/\kg x=true/\xs.all kg=true/\Q (.bl (if neg then !t9 x xs else t9 x xs)) H
theorem LI:aX X (Zw .In) (xg X.K false):=by
 intro pins s σ H x y v u Q I rx ry h;obtain⟨p,xs,rfl,hq,fx,fs,q⟩:=h;cases ry;rcases hq with hq|hq
 .obtain⟨ao,r,pl,hz⟩:=I.list hq;refine SeqAt.in_listAt (fv x) pl.isList (λw hw=>qm rx fx r fs w (by simpa using hw)) ⟨.bl _,H,I,rfl,?_⟩;rw[show ao.toArray.any (fv x)=ao.any (fv x) by simp,ql r fs];exact q
 .obtain⟨ao,r,pl,hz⟩:=I.tuple hq;refine SeqAt.in_tupleAt (fv x) pl (λw hw=>qm rx fx r fs w (by simpa using hw)) ⟨.bl _,H,I,rfl,?_⟩;rw[show ao.toArray.any (fv x)=ao.any (fv x) by simp,ql r fs];exact q
theorem LJ:aX X (Zw .NotIn) (xg X.K true):=by
 intro pins s σ H x y v u Q I rx ry h;obtain⟨p,xs,rfl,hq,fx,fs,q⟩:=h;cases ry;rcases hq with hq|hq
 .obtain⟨ao,r,pl,hz⟩:=I.list hq;refine SeqAt.notIn_listAt (fv x) pl.isList (λw hw=>qm rx fx r fs w (by simpa using hw)) ⟨.bl _,H,I,rfl,?_⟩;rw[show ao.toArray.any (fv x)=ao.any (fv x) by simp,ql r fs];exact q
 .obtain⟨ao,r,pl,hz⟩:=I.tuple hq;refine SeqAt.notIn_tupleAt (fv x) pl (λw hw=>qm rx fx r fs w (by simpa using hw)) ⟨.bl _,H,I,rfl,?_⟩;rw[show ao.toArray.any (fv x)=ao.any (fv x) by simp,ql r fs];exact q
theorem LK:dW X (.type "list") (λxs H Q=>∃ p ys,xs=[.ref p]/\(ai X.K H p ys∨ah X.K H p ys)/\∀ l,H l=none->Q (.ref l) (upd H l (.lst ys))):=by
 intro pins s σ H xs us Q I r h;obtain⟨p,ys,rfl,hq,q⟩:=h;obtain⟨u,rfl,rx⟩:=vals1 r;cases rx;have fin:∀ (ao:List Yy),Vals ys ao->ys.length<=YR->∀ (h':aaW) (c':Nat),(∀ b o',s.heap.get? b=some o'->h'.get? b=some o') ->
  h'.get? s.heap.objs.size=some { cls:=.type "list",dict:=none,data:=.seq ao.toArray c',slots:=#[] }->EP X pins σ Q (.ref s.heap.objs.size) { s with heap:=h' }:=λao r' hz h' c' kp e =>
  ⟨.ref s.heap.objs.size,_,I.laid (t':=s.toks) kp (Yz _) (show br X.prog X.w _ h' _ (.lst ys) from ⟨hz,ao,c',r',e⟩),rfl,q _ (I.ay.fresh (Yz _))⟩
 rcases hq with hq|hq
 .obtain⟨ao,r',pl,hz⟩:=I.list hq;have hlen:=r'.length;obtain⟨o,ho,hc,n,hd⟩:=pl.isList;exact call_list_seq p (.inl rfl) ho hc hd (λh' c' kp e=>fin ao r' hz h' c' kp e) (by simp only[YD]<;>omega)
 .obtain⟨ao,r',pl,hz⟩:=I.tuple hq;have hlen:=r'.length;obtain⟨o,ho,hc,n,hd⟩:=pl;exact call_list_seq p (.inr rfl) ho hc hd (λh' c' kp e=>fin ao r' hz h' c' kp e) (by simp only[YD]<;>omega)
def xh(K:Yp)(T:String)(x:V)(H:Hp):Prop:=match x with
 | .str _=>T = "str"
 | .int _=>T = "int"
 | .ref p=>(T = "list" /\ ∃ xs,ai K H p xs)∨(T = "tuple" /\ ∃ o,K.lookup p=some o/\o.cls = .type "tuple" /\ o.dict=none) ∨
  (T = "dict" /\ ((∃ kvs,H p=some (.dK kvs)) ∨ ∃ kvs,H p=some (.dT kvs)))∨(T = "set" /\ ∃ S n,H p=some (.set S n))
 | _=>False
theorem LL(I:Inv X pins σ H s)(r:RelV x v)(ty:xh X.K T x H) :
 s.TypeIs v T/\∀ a,v = .ref a->∃ ob,s.heap.get? a=some ob/\ob.dict=none:=by
 cases x with
 | str z =>
  obtain⟨t,rfl⟩:=r;cases (show T = "str" from ty);exact⟨typeIs_str s z t,λ_ e=>nomatch e⟩
 | int i =>
  obtain⟨t,rfl⟩:=r;cases (show T = "int" from ty);exact⟨af8 s i t,λ_ e=>nomatch e⟩
 | ref p =>
  cases r;rcases ty with ⟨rfl,xs,hq⟩|⟨rfl,o,hk,hc,hd⟩|⟨rfl,hk⟩|⟨rfl,S,n,hk⟩
  .obtain⟨ao,_,pl,_⟩:=I.list hq;refine⟨pl.isList.typeIs,λa e=>?_⟩;cases e;obtain⟨o,n,e,c,hd,_⟩:=pl;exact⟨o,e,hd⟩
  .refine⟨⟨o,I.bY p o hk,hc⟩,λa e=>?_⟩;cases e;exact⟨o,I.bY _ o hk,hd⟩
  .have z:∃ o,s.heap.get? p=some o/\o.ExactDict:=by
    rcases hk with ⟨kvs,hk⟩|⟨kvs,hk⟩
    .obtain⟨_,_,_,_,o,_,_,e,ex,_⟩:=I.ay p _ hk;exact⟨o,e,ex⟩
    .obtain⟨_,_,_,_,o,_,_,e,ex,_⟩:=I.ay p _ hk;exact⟨o,e,ex⟩
   obtain⟨o,e,ex⟩:=z;refine⟨⟨o,e,ex.1⟩,λa e2=>?_⟩;cases e2;exact⟨o,e,ex.2.1⟩
  .obtain⟨o,_,_,_,e,ex,_⟩:=I.ay p _ hk;refine⟨⟨o,e,ex.1⟩,λa e2=>?_⟩;cases e2;exact⟨o,e,ex.2.1⟩
 | _=>exact aaE ty
def LM(K:Yp)(T:String)(r:V->List V->Hp->VK->Prop)(to:TE):TE:=λσ H Q=>to σ H λx H1=>xh K T x H1/\r x [] H1 Q
def C1(K:Yp)(T:String)(r:V->List V->Hp->VK->Prop)(to:TE)(t:TA):TE:=λσ H Q=>to σ H λx H1=>xh K T x H1/\t σ H1 λxs H2=>r x xs H2 Q
variable{o e:acg}{es:List acg}{to:TE}{t:TA}{name:Str}{apos cM:Pos}{T id:String}{r:V->List V->Hp->VK->Prop}
theorem ju(pa:PlainAttrs T)(slot:Slot T name id)(LN:agv (.builtin id)=pure (.type "method_descriptor"))(hm:CS X id r)(ho:PE X o to)(ha:PA X (e::es) t)(LO:abN o name X.env (eval o X.env)=eval o X.env:=by rfl)(LP:((aap cM (YQ (e::es) X.env)).all (λx=>!x.1) && (aeK cM (acw [] X.env)).all (λx=>x.1.isSome)
 && decide ((e::es).length+([]:List afH).length+(if ([]:List afH).isEmpty then 0 else 1)<30))=true:=by rfl) (LQ:(apos.endLine == cM.line)=true:=by rfl) (hs:YQ (e::es) X.env=(false,eval e X.env)::YQ es X.env:=by rfl) (LR:(aap cM (YQ es X.env)).any (·.1)=false:=by rfl) :
 PE X (.Call (.Attribute o name apos) (e::es) [] cM) (C1 X.K T r to t):=by
 intro pins s σ H Q I h;refine wpAny_Call_method_late LO LP LQ rfl (aB (ho pins s σ H _ I h) λv s1 zq=>?_);obtain⟨x,H1,I1,r1,ty,q1⟩:=zq;obtain⟨h1,h2⟩:=LL I1 r1 ty;refine⟨T,id,pa,slot,LN,h1,h2,?_⟩;have hA:=ha cM pins s1 σ H1 _ I1 q1;rw[hs] at hA ⊢;refine adM (by show (false || (aap cM (YQ es X.env)).any (·.1))=false;rw[LR]<;>rfl) (aco ?_);exact aB hA λus s2 ⟨vs,H2,I2,r2,q2⟩=>hm pins s2 σ H2 x vs v us Q I2 r1 r2 q2
end
def C2(X:Cx)(id:String)(r:V->List V->Hp->VK->Prop):Prop :=
 ∀ (pins:List (YC × Obj)) (s:YB) (σ:St) (H:Hp) (x:V) (xs:List V) (v:Yy) (us:List Yy) (Q:VK),Inv X pins σ H s->RelV x v->Vals xs us->r x xs H Q ->
  YL (model X.prog X.w) X.A (call (.builtin id) (v::us)) (EP X pins σ Q) X.xe s
theorem Vals.one:∀ {x:V} {us:List Yy},Vals [x] us->∃ u,us=[u]/\RelV x u
 | _,_,.cons r .nil=>⟨_,rfl,r⟩
theorem Vals.reverse(h:Vals xs us):Vals xs.reverse us.reverse:=by
 induction h with
 | nil=>exact .nil
 | cons r t ih=>rw[abZ,abZ];exact Vals.append ih (.cons r .nil)
section
theorem Inv.C3{ao its':List Yy}{n:Nat}{f:Array Yy->Array Yy}{t':Nat}(I:Inv X pins σ H s)(hH:H l=some (.lst xs))
 (e:s.heap.get? l=some { cls:=.type "list",data:=.seq ao.toArray n }) (hf:f ao.toArray=its'.toArray) (hv:Vals ys its') (hz:ys.length<=YR) :
 Inv X pins σ (upd H l (.lst ys)) { s with heap:=s.heap.update l (ZM f),toks:=t' }:=by
 have q:=PySem.IsL.update e f;rw[hf] at q;refine I.write (x:=l) (e:=l) (by rw[hH];exact trivial) (.inl rfl) (λb' u hb hu=>(YM s.heap (ZM f) (Zj hb)).trans hu) ⟨_,q⟩ ?_;exact⟨hz,its',_,hv,q⟩
theorem Inv.LS(I:Inv X pins σ H s)(hv:Vals ys ao)(hz:ys.length<=YR) :
 Inv X pins σ (upd H s.heap.objs.size (.lst ys)) { s with heap:=s.heap.push { cls:=.type "list",data:=.seq ao.toArray },toks:=t' } :=
 I.laid (λ_ _ q=>Yt _ q) (Yz _) ⟨hz,ao,0,hv,YA _ rfl⟩
theorem Inv.fresh(I:Inv X pins σ H s):H s.heap.objs.size=none:=I.ay.fresh (Yz _)
theorem Inv.qo(I:Inv X pins σ H s)(hH:H l=some (.lst xs)):xs.length<=YR/\∃ (ao:List Yy) (n:Nat),Vals xs ao/\xs.length=ao.length/\s.heap.get? l=some { cls:=.type "list",data:=.seq ao.toArray n }:=by obtain⟨z,ao,n,r,e⟩:=I.ay l _ hH;exact⟨z,ao,n,r,r.length,e⟩
theorem LU(h:n<=YR):abH n=false:=by unfold abH;exact decide_eq_false (by omega)
def C4:V->List V->Hp->VK->Prop:=λx vs H Q=>∃ l xs y,x = .ref l/\vs=[y]/\H l=some (.lst xs)/\xs.length<YR/\Q .non (upd H l (.lst (xs++[y])))
theorem nV:C2 X "list.append" C4:=by intro pins s σ H x vs v us Q I rx rv h;obtain⟨l,xs,y,rfl,rfl,hH,hz,q⟩:=h;cases rx;obtain⟨u,rfl,ru⟩:=rv.one;obtain⟨z,ao,n,r,hl,e⟩:=I.qo hH;refine afa aeM ⟨_,e,rfl⟩ aer (aec _ _) (afb l ao.toArray n u (by rw[YD];omega)) ⟨e,?_⟩;refine⟨.non,_,I.C3 (its':=ao++[u]) hH e (by simp) (r.append (.cons ru .nil)) ?_,rfl,q⟩;rw[YO,YY];omega
def LV:V->List V->Hp->VK->Prop:=λx vs H Q=>∃ l b xs zs,x = .ref l/\vs=[.ref b]/\H l=some (.lst xs)/\H b=some (.lst zs)/\xs.length+zs.length<=YR/\Q .non (upd H l (.lst (xs++zs)))
theorem C5:C2 X "list.extend" LV:=by
 intro pins s σ H x vs v us Q I rx rv h;obtain⟨l,b,xs,zs,rfl,rfl,hH,hB,hz,q⟩:=h;cases rx;obtain⟨u,rfl,ru⟩:=rv.one;cases ru;obtain⟨z,ao,n,r,hl,e⟩:=I.qo hH;obtain⟨z2,mE,n2,r2,bA,e2⟩:=I.qo hB;have hsz:ao.toArray.size+mE.toArray.size<=YR:=by rw[YD,YD];omega
 have LW:¬ (!ao.toArray.isEmpty && abH (ao.toArray.size+mE.toArray.size))=true:=by rw[LU hsz,aek];exact YN
 refine afa F.slot_list_extend ⟨_,e,rfl⟩ F.entry_list_extend (F.args_list_extend_2 _ _)
  (AutoSeq1.list_extend_list_list_0 l ao.toArray n b mE.toArray n2 LW (by rw[YD];omega) (by omega)) ⟨e,e2,?_⟩
 refine⟨.non,_,I.C3 (its':=ao++mE) hH e (by simp) (r.append r2) ?_,rfl,q⟩;rw[YO];omega
def LX:V->List V->Hp->VK->Prop:=λx vs H Q=>∃ l xs,x = .ref l/\vs=[]/\H l=some (.lst xs)/\Q .non (upd H l (.lst xs.reverse))
def C6:R2:=λx y H Q=>∃ l b xs zs,x = .ref l/\y = .ref b/\H l=some (.lst xs)/\H b=some (.lst zs)/\xs.length+zs.length<=YR/\∀ p,H p=none->Q (.ref p) (upd H p (.lst (xs++zs)))
theorem lg:aX X (abr .Add) C6:=by
 intro pins s σ H x y v u Q I rx ry h;obtain⟨l,b,xs,zs,rfl,rfl,hH,hB,hz,q⟩:=h;cases rx;cases ry;obtain⟨z,ao,n,r,hl,e⟩:=I.qo hH;obtain⟨z2,mE,n2,r2,bA,e2⟩:=I.qo hB;refine PySem.P.add_list e e2 ?_ (by rw[YD,YD];omega);have ea:ao.toArray++mE.toArray=(ao++mE).toArray:=by simp
 rw[ea];exact⟨.ref _,_,I.LS (t':=s.toks) (r.append r2) (by rw[YO];omega),rfl,q _ I.fresh⟩
end
section
set_option maxRecDepth 100000 in
end
section
end
end L2
namespace xi
open PySem PySem.W PySem.Calls PyProof.Rows
theorem LY:∀ (ns:List Int) (vs:List Yy),WellAll P h vs (ns.map WData.int)->ads vs ns:=by
 intro ns
 induction ns with
 | nil =>
  intro vs w;rw[acN] at w;cases w;exact .nil
 | cons n ns ih =>
  intro vs w;rw[YV] at w;cases w with
  | cons a b =>
   cases a;exact .cons _ _ (ih _ b)
theorem LZ{l:OpenLaw}{n:Nat}(hn:l.most=some n){P:Params}{h:aaW}{args:List WData}{vals:List Yy}
 (C7:l.row.toRowW.claim.pre args=true) (L3:WellAll P h vals args) :
 ∃ a vs ns,vals=[YU a]/\args=[WData.list (ns.map WData.int)]/\h.get? a=some { cls:=.type "list",data:=.seq vs.toArray }/\ads vs ns/\ns.length<=n:=by
 have L6:WShape.hasAll [] args [.list .int]=true:=(pre_splitW C7).1;have hc:l.pre.holds [] { args:=args }=true:=(pre_splitW C7).2;obtain⟨d,r,rfl,h1,h2⟩:=hasAllW_cons L6;obtain rfl:=hasAllW_nil h2;obtain⟨xs,rfl,h3⟩:=hasW_list h1;obtain⟨ns,rfl⟩:=items_int h3;have hlen:ns.length<=n:=by
  unfold OpenLaw.pre at hc;have h4:(WTm.not (.lt (.lit (.int (n:Int))) (.len (.arg 0)))).holds [] { args:=[.list (ns.map .int)] }=true:=by have h4:=(holds_andW hc).1;rw[hn] at h4;exact h4
  have h5:=condW_of h4 (w_not (w_lt w_lit (w_len_list (w_arg rfl))));rw[Yq] at h5;refine Nat.le_of_not_lt λq=>?_;have q':(n:Int)<((ns.length:Nat):Int):=by omega
  first
   | (rw[decide_eq_true q'] at h5;exact absurd h5 (by decide))
   | (simp at h5;omega)
 cases L3 with
 | cons w1 w2 =>
  cases w2;cases w1 with
  | list ho hall=>exact⟨_,_,ns,rfl,rfl,ho,LY ns _ hall,hlen⟩
theorem L8(l:OpenLaw)(args:List WData):l.row.toRowW.claim.post args (.bool true) args=true :=
 postW_of (r:=l.row.toRowW) (X:=(true == true))
  (show WShape.has [] (.bool true) .bool=true by first|rfl|decide|simp[WShape.has,WShape.arms,WShape.armsAll])
  (show (WTm.eq .res (.lit (.bool true))).value [] { args:=args,res:=some (.bool true),after:=args }=some (.bool (true == true)) from w_eq_bool (w_res rfl) w_lit) rfl
section
end
end xi
namespace L2
open PySem PySem.Spec PyProof.Rows
theorem xj:∀ {vs:List Yy} {ns:List Int},ads vs ns->Vals (ns.map V.int) vs
 | _,_,.nil=>.nil
 | _,_,.cons n t h=>.cons ⟨t,rfl⟩ (xj h)
def C8(H:Hp):Prop:=∀ b,H b=none ∨ ∃ o xs,H b=some (.aQ o (.lst xs))
theorem L9{P:Zo}{w:ZZ}{K:Yp}{mg mb:Str->Option Yy}{CX:gk}{k:Nat}{fa a:YC}{fd:abu}{x:Str}{sp:Sp}{s₁:YB}{vs:List Yy}{ns:List Int}
 (KX:K.In s₁.heap) (fw:s₁.heap.Ns YW mg) (hb:s₁.heap.Ns ae1 mb) (Ma:∀ x:Str,x ≠ "__name__" -> mb x=Zf x) (Mb:s₁.heap.NoLimit) (hg:s₁.gens = #[])
 (ha:s₁.heap.get? a=some { cls:=.type "list",data:=.seq vs.toArray }) (hi:ads vs ns) (hl:ns.length<=YR) (hr:bN k afI)
 (F:∀ base:aaW,K.In base->base.Ns YW mg->dX P w K mg base CX k fa fd [x] sp) (Mc:∀ (s:YB) (u:Yy),ae6 s fd ⟨[u],[]⟩ [(x,u)])
 (k7:∀ H:Hp,C8 H->ai K H a (ns.map V.int)->sp [.ref a] H (λv _=>v = .bl true) λ_ _ _=>False)
 (Md:∀ H e s',CX [] H s₁ (λ_ _ _=>False) e s'->False) :
 abb (model P w) afI (.call (.ref fa) ⟨[.ref a],[]⟩) (λr s'=>r = .ok (.ret (.bool true))/\OldK s₁.heap s'.heap/\s'.os=s₁.os/\adU s'.gens) s₁:=by
 have rv:=xj hi;have Me:=hi.length;have core:∀ H:Hp,C8 H->ai K H a (ns.map V.int)->bK P w H s₁.heap->(∀ b,H b≠none->b=a)->(H a≠none->K.lookup a=none) ->
  abb (model P w) afI (.call (.ref fa) ⟨[.ref a],[]⟩) (λr s'=>r = .ok (.ret (.bool true))/\OldK s₁.heap s'.heap/\s'.os=s₁.os/\adU s'.gens) s₁:=by
  intro H hO hS ay hA hK;have C9:∀ {b:YC} {o:Obj},s₁.heap.get? b=some o->H b=none->(jY s₁.heap H).get? b=some o:=λe n=>KA e n;have gn:∀ {b:YC} {o:Obj} {es:Array aa3} {ep:Nat},s₁.heap.get? b=some o->o.data = .dict es ep->H b=none:=λ{b o es ep} e d=>by
   cases q:H b with
   | none=>rfl
   | some u =>
    have e':b=a:=hA b (by rw[q];simp);subst e';rw[ha] at e;cases e;have d':Data.seq vs.toArray _=Data.dict es ep:=d;cases d'
  have ua:∀ {b:YC} {m:Str->Option Yy},s₁.heap.Ns b m->(jY s₁.heap H).Ns b m:=λ{b m} ⟨o,es,ep,e,d,r⟩=>⟨o,es,ep,C9 e (gn e d),d,r⟩
  have Dc:K.In (jY s₁.heap H):=λb o e=>C9 (KX b o e) (by
   cases q:H b with
   | none=>rfl
   | some u =>
    have e':b=a:=hA b (by rw[q];simp);subst e';rw[hK (by rw[q];simp)] at e;cases e)
  have hM:Mod K mg (jY s₁.heap H):=⟨Dc,ua fw,⟨mb,ua hb,Ma⟩,let ⟨mc,h1,h2⟩:=Mb;⟨mc,ua h1,h2⟩⟩
  have e0:mC P w K mg (jY s₁.heap H) afI [] s₁ H:=⟨rfl,hM,λb o e=>KC e,agu (Kz _ _),trivial,λb hb=>absurd (show b∈([]:List YC) from hb) (by simp),ay,.of_eq hg⟩
  refine ab7 ((F _ Dc (ua fw)).run afI [] s₁ H ⟨[.ref a],[]⟩ [.ref a] [.ref a] _ _ hr e0 (Mc s₁ (.ref a)) (.cons rfl .nil) (k7 H hO hS)) λr s' h=>?_;cases r with
  | error e=>exact (Md H e s' h).elim
  | ok fl =>
   cases fl with
   | next=>exact aaE h
   | brk=>exact aaE h
   | cont=>exact aaE h
   | ret u =>
    obtain⟨v,H',os,bare,un,Mf,r',q⟩:=h;have q':v = .bl true:=q;subst q';obtain rfl:u=Z3 true:=r';refine⟨rfl,OldK.of_keep λb o e=>?_,os,bare⟩;cases q:H b with
    | none=>exact un.keep b o e q (by intro z;exact absurd (show b∈([]:List YC) from z) (by simp)) (by simp)
    | some u =>
     rcases hO b with z|⟨ob,xs,z⟩
     .rw[q] at z;cases z
     .have z2:=un.dR b ob _ z;obtain⟨e1,_⟩:=ay b _ z;obtain⟨e2,_⟩:=Mf b _ z2;rw[e] at e1;cases e1;exact e2
 cases hk:K.lookup a with
 | some o =>
  have e:=KX a o hk;rw[ha] at e;cases e;refine core (λ_=>none) (λ_=>.inl rfl) (.inr ⟨_,vs.toArray,_,hk,rfl,rfl,rfl,by rw[YD,Me];exact hl,by simpa using rv⟩) (λb u z=>by have z':(none:Option HO)=some u:=z;cases z') (λb z=>absurd rfl z) λz=>absurd rfl z
 | none =>
  refine core (λb=>if b=a then some (.aQ { cls:=.type "list",data:=.seq vs.toArray } (.lst (ns.map V.int))) else none) (λb=>?_) (.inl (.inr ⟨{ cls:=.type "list",data:=.seq vs.toArray },if_pos rfl⟩)) (λb u z=>?_) (λb z=>?_) λ_=>hk
  .by_cases hb:b=a
   .exact .inr ⟨_,_,if_pos hb⟩
   .exact .inl (if_neg hb)
  .by_cases hb:b=a
   .have z':=(if_pos hb).symm.trans z;cases z';subst hb;exact⟨ha,by rw[Yq];exact hl,vs,_,rv,ha⟩
   .have z':=(if_neg hb).symm.trans z;cases z'
  .by_cases hb:b=a
   .exact hb
   .exact absurd (if_neg hb) z
def inClass(s:aaj)(j:Nat):aaj:=match s with
 | .ClassDef _ _ _ body _ _ _ _ _ _ _=>body.getD j (.Pass ⟨0,0,0,0⟩)
 | _=>.Pass ⟨0,0,0,0⟩
noncomputable def nW(s:aaj):Arguments:=match s with
 | .FunctionDef _ a _ _ _ _ _ _ _ _=>a
 | _=>{ posonlyargs:=[],args:=[],vararg:=none,kwonlyargs:=[],kw_defaults:=[],kwarg:=none,defaults:=[] }
noncomputable def gN(s:aaj):List aaj:=match s with
 | .FunctionDef _ _ b _ _ _ _ _ _ _=>b
 | _=>[]
noncomputable def dk(s:aaj):adH:=match s with
 | .FunctionDef _ _ _ _ _ _ sc _ _ _=>sc
 | _=>{ kind:=.function,names:=[],isGenerator:=false,isCoroutine:=false }
abbrev E0:XK:=λ_ _ _=>False
structure mF(K:Yp)(x qual:Str)(st:aaj)(f:YC)(fd:abu):Prop where
 ex:∃ (oc:Yy) (od:Option YC) (kV doc pm:Yy) (an:Option YC) (aV ct:Yy) (jq:Array (Option Yy)),
  fd=abc x qual (nW st) (gN st) (dk st) .none kV doc pm an aV ct/\K.lookup f=some ⟨oc,od,.func fd,jq⟩/\acU K aV qual=true
 kp:aaa K (.ref f)=true
section
variable{P:Zo}{w:ZZ}{K:Yp}{mg:Str->Option Yy}{base:aaW}
theorem mF.binds{x qual:Str}{st:aaj}{f:YC}{fd:abu}{ps:List Str}(F:mF K x qual st f fd)
 (h:∀ (kV doc pm:Yy) (an:Option YC) (aV ct:Yy) (us:List Yy),us.length=ps.length->bindArgs (abc x qual (nW st) (gN st) (dk st) .none kV doc pm an aV ct) ⟨us,[]⟩=pure (ps.zip us)):Binds K fd ps []:=by
 obtain⟨oc,od,kV,doc,pm,an,aV,ct,jq,rfl,lk,fq⟩:=F.ex;exact .all (h kV doc pm an aV ct)
theorem nX{x qual:Str}{st:aaj}{f:YC}{oc:Yy}{od an:Option YC}{jq:Array (Option Yy)}{kV doc pm aV ct:Yy}(l:K.lookup f=some ⟨oc,od,.func (abc x qual (nW st) (gN st) (dk st) .none kV doc pm an aV ct),jq⟩)
 (c:acU K aV qual=true) (k:aaa K (.ref f)=true):mF K x qual st f (abc x qual (nW st) (gN st) (dk st) .none kV doc pm an aV ct):=⟨⟨oc,od,kV,doc,pm,an,aV,ct,jq,rfl,l,c⟩,k⟩
end
theorem eY(hr:bN k A):A.units+1<acv:=ZE (Nat.add_le_add_left (by decide:1<=64) _) hr.units
section
theorem pv(i:Nat)(hN:X.N[i]?=some x:=by rfl)(hv:tM X.env.scope x:=by first|exact aca rfl|exact afn (aca rfl)|exact afn (afn rfl))(hd:(x == ("__debug__" : Str))=false:=by decide)(fq:(x == ("__classdict__" : Str))=false:=by decide):PE X (.Name x pos) (wF i):=KH hN hv hd fq
end
def aj(H H':Hp):Prop:=∀ b o,H b=some o->H' b=some o
theorem aj.refl(H:Hp):aj H H:=λ_ _ h=>h
theorem aj.trans(a:aj H H1)(b:aj H1 H2):aj H H2:=λc o h=>b c o (a c o h)
theorem aj.free(e:aj H H')(h:H' l=Option.none):H l=Option.none:=by
 cases q:H l with
 | none=>rfl
 | some o =>
  rw[e l o q] at h;cases h
theorem aj.seq{K:Yp}{H H':Hp}{a:YC}{xs:List V}(e:aj H H')(h:ai K H a xs):ai K H' a xs:=by
 rcases h with (h|⟨o,h⟩)|h
 .exact .inl (.inl (e _ _ h))
 .exact .inl (.inr ⟨o,e _ _ h⟩)
 .exact .inr h
end L2
namespace Gz
open PySem PySem.Spec PyProof.Rows L2
def Bd(n:Nat)(x:Int):Prop:=x.natAbs<2 ^ n
theorem Bd.up(h:Bd n x)(hm:n<=m):Bd m x:=YJ h (Nat.pow_le_pow_right (by decide) hm)
theorem Bd.bits(h:Bd n x):aa0 x<=n:=by
 unfold aa0;by_cases e:x=0
 .subst e;simp
 .have e0:¬ ((x == 0)=true):=by simpa using e
  rw[if_neg e0];have hn:x.natAbs≠0:=by lia
  have:=(Nat.log2_lt hn).mpr h;lia
def nY(i j:Int):Prop:=Bd 4000 i/\Bd 4000 j
theorem nY.ok(h:nY i j):IntMulOk i j :=
 IntMulOk.of_bits (Yw h.1.bits (by decide)) (Yw h.2.bits (by decide))
section
theorem Mg:aX X (abr .Mult) (rI nY λi j=>.int (i * j)):=tY λ_ _ _ _ _ _ _ hc q=>mul_int q hc.ok
noncomputable def jv:V->Yy
 | .ref a=>.ref a
 | .ty n=>.type n
 | _=>.none
theorem Mh:dW X (.builtin "isinstance") (λxs H Q=>∃ x c t b,xs=[x,c]/\cW X.K H x t/\jv c ≠ .none/\Zq X.K t (jv c)=some b/\Q (.bl b) H):=by
 intro pins s σ H xs us Q I r h;obtain⟨x,c,t,b,rfl,ty,hc,e,q⟩:=h;obtain⟨u,v,rfl,rx,rc⟩:=vals2 r;have ev:v=jv c:=by
  cases c with
  | ref a=>exact rc
  | ty n=>exact rc
  | non=>exact absurd rfl hc
  | bl _=>exact absurd rfl hc
  | int _=>exact absurd rfl hc
  | str _=>exact absurd rfl hc
  | byt _=>exact absurd rfl hc
  | flt _=>exact absurd rfl hc
 subst ev;exact Lp I rx ty e λtk=>⟨.bl b,H,I.tok tk,rfl,q⟩
end
theorem uc{K:Yp}{t:Yy}:Zq K t t=some true:=by unfold Zq;rw[if_pos (by simp)]
theorem ud{K:Yp}{a c:String}{b:Bool}(h:afJ c=true)(h2:(PySem.fastBuiltinMro a).map (·.contains (.type c))=some b)(h3:(a == c)=false):Zq K (.type a) (.type c)=some b:=by
 unfold Zq;have e:¬ ((ac4 a == ac4 c)=true):=by simp only[beq_iff_eq,Value.type.injEq];simpa using h3
 rw[if_neg e];show (if afJ c=true then abP K (.type a) (.type c) else none)=some b;rw[if_pos h];exact h2
theorem Mi{K:Yp}:Zq K (.type "int") (.type "bool")=some false:=ud (by decide +kernel) (by decide +kernel) (by decide)
theorem Mj{K:Yp}:Zq K (.type "bool") (.type "int")=some true:=ud (by decide +kernel) (by decide +kernel) (by decide)
theorem Ml{K:Yp}:Zq K (.type "NoneType") (.type "int")=some false:=ud (by decide +kernel) (by decide +kernel) (by decide)
theorem Mm{K:Yp}:Zq K (.type "NoneType") (.type "tuple")=some false:=ud (by decide +kernel) (by decide +kernel) (by decide)
theorem cD:Zf "len" = some (.builtin "len"):=by decide +kernel
theorem qp:Zf "min" = some (.builtin "min"):=by decide +kernel
theorem xk:Zf "max" = some (.builtin "max"):=by decide +kernel
theorem iB:Zf "isinstance" = some (.builtin "isinstance"):=by decide +kernel
theorem Dd:Zf "sorted" = some (.builtin "sorted"):=by decide +kernel
theorem De:Zf "any" = some (.builtin "any"):=by decide +kernel
theorem Df:Zf "all" = some (.builtin "all"):=by decide +kernel
theorem Dg:Zf "sum" = some (.builtin "sum"):=by decide +kernel
theorem Mn:Zf "int" = some (.type "int"):=by decide +kernel
theorem Mo:Zf "bool" = some (.type "bool"):=by decide +kernel
theorem nZ:Zf "list" = some (.type "list"):=by decide +kernel
theorem ue:Zf "tuple" = some (.type "tuple"):=by decide +kernel
theorem Dh:Zf "enumerate" = some (.type "enumerate"):=by decide +kernel
theorem Mp:Zf "zip" = some (.type "zip"):=by decide +kernel
theorem Mq:Zf "reversed" = some (.type "reversed"):=by decide +kernel
noncomputable def xl:V->V->Option Bool
 | .int _,.ty n=>if n = "int" then some true else if n = "bool" then some false else none
 | .bl _,.ty n=>if n = "int" then some true else if n = "bool" then some true else none
 | .non,.ty n=>if n = "int" then some false else if n = "tuple" then some false else none
 | _,_=>none
def iC(K:Yp)(x c:V)(H:Hp)(Q:VK):Prop:=match xl x c with
 | some b=>Q (.bl b) H
 | none=>∃ t b,cW K H x t/\jv c ≠ .none/\Zq K t (jv c)=some b/\Q (.bl b) H
section
theorem kh:dW X (.builtin "isinstance") (λxs H Q=>∃ x c,xs=[x,c]/\iC X.K x c H Q):=by
 intro pins s σ H xs us Q I r h;obtain⟨x,c,rfl,h⟩:=h;refine Mh pins s σ H _ us Q I r ?_;cases e:xl x c with
 | none =>
  unfold iC at h;rw[e] at h;obtain⟨t,b,h1,h2,h3,h4⟩:=h;exact⟨x,c,t,b,rfl,h1,h2,h3,h4⟩
 | some b =>
  unfold iC at h;rw[e] at h;unfold xl at e;split at e
  .rename_i i n;split at e
   .rename_i z;subst z;cases e;exact⟨_,_,_,_,rfl,cW.int i,(λz=>nomatch z),uc,h⟩
   .split at e
    .rename_i z;subst z;cases e;exact⟨_,_,_,_,rfl,cW.int i,(λz=>nomatch z),Mi,h⟩
    .cases e
  .rename_i i n;split at e
   .rename_i z;subst z;cases e;exact⟨_,_,_,_,rfl,cW.bl i,(λz=>nomatch z),Mj,h⟩
   .split at e
    .rename_i z;subst z;cases e;exact⟨_,_,_,_,rfl,cW.bl i,(λz=>nomatch z),uc,h⟩
    .cases e
  .rename_i n;split at e
   .rename_i z;subst z;cases e;exact⟨_,_,_,_,rfl,cW.non,(λz=>nomatch z),Ml,h⟩
   .split at e
    .rename_i z;subst z;cases e;exact⟨_,_,_,_,rfl,cW.non,(λz=>nomatch z),Mm,h⟩
    .cases e
  .cases e
end
section
variable{K:Yp}{H:Hp}{Q:VK}{i:Int}{b:Bool}{p:YC}{xs:List V}
theorem Mr:iC K (.int i) (.ty "int") H Q=Q (.bl true) H:=rfl
theorem Ms:iC K (.int i) (.ty "bool") H Q=Q (.bl false) H:=rfl
theorem Mt:iC K (.bl b) (.ty "int") H Q=Q (.bl true) H:=rfl
theorem Mu:iC K (.bl b) (.ty "bool") H Q=Q (.bl true) H:=rfl
theorem Mv:iC K .non (.ty "int") H Q=Q (.bl false) H:=rfl
theorem Mw:iC K .non (.ty "tuple") H Q=Q (.bl false) H:=rfl
theorem uf(h:H p=some (.tup xs))(q:Q (.bl true) H):iC K (.ref p) (.ty "tuple") H Q:=⟨_,_,cW.tup h,(λz=>nomatch z),uc,q⟩
theorem xm(h:H p=some (.lst xs))(q:Q (.bl true) H):iC K (.ref p) (.ty "list") H Q:=⟨_,_,cW.lst h,(λz=>nomatch z),uc,q⟩
end
def dm(P:Zo)(w:ZZ):gk:=λouter H s E e s' =>
 ∃ (x:YC) (cls a0:Yy) (H':Hp) (B:aaW),e = .ref x/\s'.os=s.os/\adU s'.gens/\Un (aU outer) [] H H' s.heap s'.heap /\
  (∀ b o,s.heap.get? b=some o->H b=none->b∉aU outer->B.get? b=some o)/\(∀ b o,s.heap.get? b=some o->b∉aU outer->∃ o',B.get? b=some o')/\bK P w H' B/\H' x=none/\s.heap.get? x=none /\
  afo B outer x cls a0 s'.heap/\E cls none H'
theorem bO:Passes (dm P w) X E0:=by rintro _ _ _ _ _ _ _ ⟨_,_,_,_,_,_,_,_,_,_,_,_,_,_,_,h⟩;exact h.elim
theorem Mx(h:dm P w outer H s (λ_ _ _=>False) e s'):False:=by obtain⟨_,_,_,_,_,_,_,_,_,_,_,_,_,_,_,h⟩:=h;exact h
section
variable{P:Zo}{w:ZZ}{K:Yp}{mg:Str->Option Yy}{base:aaW}
theorem okN{x qual:Str}{st:aaj}{f:YC}{fd:abu}{N ps:List Str}{k:Nat}{sp:Sp}(F:mF K x qual st f fd)(S:qj N ps (dk st))(len:∀ vs H Q E,sp vs H Q E->vs.length=ps.length)
 (gp:∀ (aV:Yy) (A:aac) (outer:List Env) (s:YB) (H:Hp) (vs:List V) (Q:VK) (E:XK),bN k (A.deeper (aaf qual (dk st) s.heap.objs.size f aV))->sp vs H Q E ->
   ∃ t,aM (eJ (dm P w) P w K mg base N qual (dk st) f aV A outer s H E).nO (gN st) t/\t { nx:=λ_ H'=>Q .non H',rt:=Q } (start N vs) H):dX P w K mg base (dm P w) (k+1) f fd ps sp:=by
 obtain⟨oc,od,kV,doc,pm,an,aV,ct,jq,rfl,lk,fq⟩:=F.ex;refine CJ lk fq S len λA outer s H vs Q E hr k7=>?_;obtain⟨t,h,q⟩:=gp aV A outer s H vs Q E hr k7;exact⟨t,h.nO,q⟩
end
theorem My(a b:Int):ke (.int a) (.int b)=true:=rfl
theorem Mz(a b:Bool):ke (.bl a) (.bl b)=true:=rfl
theorem MA(a:Int):ke (.int a) .non=true:=rfl
theorem MB(a:Int):ke .non (.int a)=true:=rfl
theorem MC:ke .non .non=true:=rfl
theorem ite_tt:(if true=true then A else B)=A:=if_pos rfl
theorem ite_ff:(if false=true then A else B)=B:=if_neg YN
theorem MD{CX:gk}{P:Zo}{w:ZZ}{K:Yp}{mg:Str->Option Yy}{base:aaW}{N:List Str}{qual:Str}{scope:adH}{f:YC}{cd:Yy}{A:aac}{outer:List Env}{s:YB}{H:Hp}{E:XK} :
 (eJ CX P w K mg base N qual scope f cd A outer s H E).K=K:=rfl
theorem ME{CX:gk}{P:Zo}{w:ZZ}{K:Yp}{mg:Str->Option Yy}{base:aaW}{N:List Str}{qual:Str}{scope:adH}{f:YC}{cd:Yy}{A:aac}{outer:List Env}{s:YB}{H:Hp}{E:XK} :
 (eJ CX P w K mg base N qual scope f cd A outer s H E).N=N:=rfl
section
variable{K:Yp}{H H':Hp}{a p:YC}{xs ys:List V}{i:Int}{v:V}{Q:VK}
theorem dN(e:aj H H')(h:ah K H a xs):ah K H' a xs:=by
 rcases h with (h|⟨o,h⟩)|h
 .exact .inl (.inl (e _ _ h))
 .exact .inl (.inr ⟨o,e _ _ h⟩)
 .exact .inr h
theorem au(h:H p=none):aj H (upd H p o):=λb u e=>by rw[aD (ir e h)];exact e
theorem ak(h:ah K H p xs)(e:cC xs i=some v)(q:Q v H):kf K (.ref p) (.int i) H Q:=.inr (.inl ⟨p,xs,i,v,rfl,rfl,h,e,q⟩)
theorem bz(h:ai K H p xs)(e:cC xs i=some v)(q:Q v H):kf K (.ref p) (.int i) H Q:=.inl ⟨p,xs,i,v,rfl,rfl,h,e,q⟩
theorem dY(h:ai K H p xs):wX K (.ref p) H xs.length:=.inl ⟨xs,h,rfl⟩
theorem n0(h:ah K H p xs):wX K (.ref p) H xs.length:=.inr ⟨xs,h,rfl⟩
end
noncomputable def isWhole:V->Bool
 | .int _=>true
 | _=>false
def FJ(J:It)(g:TG)(tb:TS)(D:Ends)(σ:L2.St)(H:Hp):Prop:=∃ W:Nat->Nat->L2.St->Hp->Prop,(∃ m,W 0 m σ H)/\∀ i m σ H,W i m σ H ->
 (J.stop i H/\D.nx σ H)∨(J.go i H/\∃ N:L2.St->Hp->Prop,(∀ σ' H',N σ' H'->∃ m',m'<m/\W (i+1) m' σ' H')/\∀ x H',J.yld i H x H'->g x σ H' λσ2 H2=>tb { D with nx:=N,ct:=N,bk:=D.nx } σ2 H2)
section
variable{K:Yp}{g:TG}{tb:TS}{D:Ends}{σ:L2.St}{H:Hp}{a:YC}{xs:List V}{lo:Int}{n:Nat}
theorem MF:jm (wK ta) g tb D σ H=ta σ H (λvs H1=>∃ j:Int,vs=[.int j]/\-(2 ^ 62)<=j/\j<2 ^ 62/\FJ (gK 0 j.toNat) g tb D σ H1):=rfl
theorem MG{tl:TE}:jm (tV K tl) g tb D σ H=tl σ H (λx H1=>∃ a,x = .ref a/\(∃ xs,ai K H1 a xs)/\FJ (jk K a) g tb D σ H1):=rfl
theorem MH{tl:TE}:jm (wI K tl) g tb D σ H=tl σ H (λx H1=>∃ a,x = .ref a/\(∃ xs,ah K H1 a xs)/\FJ (p8 K a) g tb D σ H1):=rfl
theorem iD(Pv:Nat->L2.St->Hp->Prop)(h0:Pv 0 σ H)(hs:∀ i σ H,i<n->Pv i σ H->g (.int (lo+i)) σ H λσ2 H2=>tb { D with nx:=Pv (i+1),ct:=Pv (i+1),bk:=D.nx } σ2 H2)(hd:∀ σ H,Pv n σ H->D.nx σ H):FJ (gK lo n) g tb D σ H:=KY Pv h0 hs hd
theorem ki(Pv:Nat->L2.St->Hp->Prop)(h0:Pv 0 σ H)(hl:∀ i σ H,i<=xs.length->Pv i σ H->ai K H a xs)(hs:∀ i x σ H,xs[i]?=some x->Pv i σ H->g x σ H λσ2 H2=>tb { D with nx:=Pv (i+1),ct:=Pv (i+1),bk:=D.nx } σ2 H2)(hd:∀ σ H,Pv xs.length σ H->D.nx σ H):FJ (jk K a) g tb D σ H:=KW Pv h0 hl hs hd
end
theorem a7:(2:Nat)<=YR:=by decide
theorem Di(h:x.natAbs<2 ^ 200):Bd 4000 x:=Bd.up (n:=200) h (by decide)
theorem Dj(h:x.natAbs<2 ^ 200)(h':y.natAbs<2 ^ 200):nY x y:=⟨Di h,Di h'⟩
section
end
section
variable{K:Yp}{H H1:Hp}{l p:YC}{xs ys:List V}{o:HO}
theorem jw(hl:H l=none)(s:aj H H1):aj H (upd H1 l o):=λb u e=>by rw[aD (ir e hl)];exact s b u e
theorem n4(h:ah K H1 p xs)(hl:H1 l=some (.lst ys)):ah K (upd H1 l o) p xs:=by
 rcases h with (h|⟨z,h⟩)|h
 .exact .inl (.inl (by rw[aD (nI h hl (λe=>nomatch e))];exact h))
 .exact .inl (.inr ⟨z,by rw[aD (nI h hl (λe=>nomatch e))];exact h⟩)
 .exact .inr h
end
end Gz
namespace Gz
open PySem PySem.W PySem.Spec PySem.Calls PyProof.Rows Builtin Builtin.ObjectAttr Builtin.Getset_descriptor
section
variable{prog:Zo}{w:ZZ}{A:aac}{E:Yy->YB->Prop}{s:YB}{K:Frag}{x C:YC}{oe:Obj}{R:aeJ->YB->Prop}
theorem MI{tp:Yy}(X:K.In s.heap)(he:s.heap.get? x=some oe)(hc:oe.cls = .ref C)(hm:mroIn K C (.type "object")=some true)
 (h:R (.ok (.ret (.ref C))) s):abb (model prog w) A (.call (.builtin "getset_descriptor.__get__") ⟨[.builtin "object.__class__",.ref x,tp],[]⟩) R s:=by
 obtain⟨hh,g,dr,t,os⟩:=s;have L0:Looks (model prog w) hh (agv (.ref x)) (.ref C):=hc ▸ (Looks.ld he).andThen .now;have L1:=looks_mroIn (M:=model prog w) X hm;refine abl KF.slot_gs.plain KF.entry_gs (KF.slot_gs.check _ _ _ _ _ _ _ _ KF.type_class (KF.args_gs _ _ _) ?_);unfold aak.«getset_descriptor.__get__» descrGet;rw[dga_obj];refine Yo (Yu ?_);unfold descrGetter descrCheckInstance descrNameAndClass af9;simp only[KF.owner_class]
 repeat lk
 refine⟨Code.quiet_builtin _ (by decide +kernel),Zt KF.entry_class ?_⟩;unfold aak.«object.__class__» shownTypeOf
 repeat lk
 exact h
theorem MJ{tk:Tok}{Q:Fin->YB->Prop}(X:K.In s.heap)(he:s.heap.get? x=some oe)(hc:oe.cls = .ref C)(hm:mroIn K C (.type "object")=some true)
 (g3:findIn K (.ref C) "__class__" = some (some (.builtin "object.__class__"))) (h:Q (.done (.ret (.ref C))) s) :
 YL (model prog w) A (aak.«object.__getattribute__» ⟨[.ref x,.str "__class__" tk],[]⟩) Q E s:=by
 obtain⟨hh,g,dr,t,os⟩:=s;have L0:Looks (model prog w) hh (agv (.ref x)) (.ref C):=hc ▸ (Looks.ld he).andThen .now;have L1:=looks_findIn (M:=model prog w) X g3;have f5:=KF.type_class;have f6:=F.slot_gs_get.lookup;have f7:=F.slot_gs_set.lookup
 repeat (any_goals (first|assumption|(with_reducible refine L0.at ?_)|(with_reducible refine L1.at ?_)|wp_step))
 refine MI X he hc hm ?_
 repeat (any_goals (first|assumption|wp_step))
theorem MK{Dk:Yy}{Q:Unit->YB->Prop}(X:K.In s.heap)(he:s.heap.get? x=some oe)(hc:oe.cls = .ref C)(hb:mroIn K C (.type "BaseException")=some true)(h:Q () s) :
 YL (model prog w) A (acj "BaseException.__getattribute__" ⟨[.ref x,Dk],[]⟩) Q E s:=by
 obtain⟨hh,g,dr,t,os⟩:=s;have hk:aes "BaseException.__getattribute__" = some .slot:=by decide +kernel
 have ML:splitId "BaseException.__getattribute__" = some ("BaseException","__getattribute__"):=by decide +kernel
 have ha:=F.args_bexc_ga (.ref x) Dk;have L0:Looks (model prog w) hh (agv (.ref x)) (.ref C):=hc ▸ (Looks.ld he).andThen .now;have L1:=looks_mroIn (M:=model prog w) X hb;simp only[acj,hk,ML];refine Yo ?_;unfold af9
 repeat (first|(with_reducible refine L0.at ?_)|(with_reducible refine L1.at ?_)|wp_step)
 exact h
theorem MM{Q:Option Yy->YB->Prop}(X:K.In s.heap)(he:s.heap.get? x=some oe)(hc:oe.cls = .ref C)(hm:mroIn K C (.type "object")=some true)(hb:mroIn K C (.type "BaseException")=some true)
 (g1:findIn K (.ref C) "__getattribute__" = some (some (.builtin "BaseException.__getattribute__"))) (g2:findIn K (.ref C) "__getattr__" = some none)
 (g3:findIn K (.ref C) "__class__" = some (some (.builtin "object.__class__"))) (h:Q (some (.ref C)) { s with toks:=s.toks+1 }) :
 YL (model prog w) A (getAttr? (.ref x) "__class__") Q E s:=by
 obtain⟨hh,g,dr,t,os⟩:=s;have L0:Looks (model prog w) hh (agv (.ref x)) (.ref C):=hc ▸ (Looks.ld he).andThen .now;have L1:=looks_findIn (M:=model prog w) X g1;have L2:=looks_findIn (M:=model prog w) X g2;have f3:=F.excAttr_ValueError.ga.bind (.ref x);have qq:(adu "BaseException.__getattribute__" == adu "object.__getattribute__")=false:=by decide +kernel
 have jx:(onTheHeap (YU C) && adu "BaseException.__getattribute__" == adu "object.__getattribute__")=false:=by rw[qq];rfl
 unfold getAttr? getAttrBy?
 repeat (any_goals (first|assumption|(with_reducible refine L0.at ?_)|(with_reducible refine L1.at ?_)|(with_reducible refine L2.at ?_)|wp_step))
 refine abl F.excAttr_ValueError.ga.plain F.entry_bexc_ga (MK X he hc hb (MJ X he hc hm g3 ?_))
 repeat (any_goals (first|assumption|wp_step))
end
structure XC(K:Frag)(C:YC):Prop where
 ex:excIn K C [.type "ValueError",.type "Exception",.type "BaseException",.type "object"] "ValueError.__new__" = true
 mo:mroIn K C (.type "object")=some true
 mb:mroIn K C (.type "BaseException")=some true
 ga:findIn K (.ref C) "__getattribute__" = some (some (.builtin "BaseException.__getattribute__"))
 gr:findIn K (.ref C) "__getattr__" = some none
 gc:findIn K (.ref C) "__class__" = some (some (.builtin "object.__class__"))
theorem XC.cls{K:Frag}{C:YC}(x:XC K C):∃ c d cd sl,K.lookup C=some ⟨c,d,.cls cd,sl⟩:=by
 have q:=x.ex;unfold excIn at q;split at q
 .rename_i dd cd sl ho;exact⟨_,_,_,_,ho⟩
 .cases q
theorem MN{K:Frag}{x C:YC}(c:XC K C):KitX K (.ref x) (.ref C) (λh=>∃ oe:Obj,h.get? x=some oe/\oe.cls = .ref C) where
 ty:=λ_ _ _ ⟨oe,he,hc⟩=>hc ▸ (Looks.ld he).andThen .now
 it:=λ_ _ X _=>by obtain⟨a,b,cd,sl,ho⟩:=c.cls;intro A' Q' E' s' k q;unfold isType loadHead;exact Yo (wpAny_loadPart (k _ _ (X _ _ ho)) (Yu q))
 ne:=λh tp dd ao n sl X xn=>by obtain⟨a,b,cd,sl,ho⟩:=c.cls;refine abh.mpr λq=>?_;have e:C=tp:=Value.ref.inj (beq_iff_eq.mp q);subst e;have z:=(X _ _ ho).symm.trans xn;cases z
 ca:=λX ⟨oe,he,hc⟩ k=>MM X he hc c.mo c.mb c.ga c.gr c.gc k
theorem MO{K:Frag}{h:aaW}{C:YC}(X:K.In h)(c:XC K C) :
 ∃ bm N nm q bs hdct sn sub ab col dd k0 k1 k2 k3 k5 mN,h.get? C=some (excClassObj nm q C N bs bm hdct sn sub ab col dd k0 k1 k2 k3 k5 "ValueError.__new__")/\h.Ns N mN/\mN "__init__" = none /\
  OwnTail h [.type "ValueError",.type "Exception",.type "BaseException",.type "object"] bm:=by
 have q:=c.ex;unfold excIn at q;split at q
 .rename_i dd cd sl ho;split at q
  .rename_i C' bm k0 k1 k2 k3 n k5 hm hs;simp only[Z5,beq_iff_eq,afc] at q;obtain⟨⟨⟨⟨⟨rfl,rfl⟩,hdel⟩,ht⟩,ay⟩,hni⟩:=q;obtain⟨nm,bs,mro,ns,qn,hd,sn,sub,ab,col,del⟩:=cd;dsimp only at hm hdel ay hni;subst hm hdel;have kj:sl = #[k0,k1,k2,k3,some (.builtin "ValueError.__new__"),k5]:=by obtain⟨l⟩:=sl;simp only at hs;rw[hs]
   subst kj;exact⟨bm,ns,nm,qn,bs,hd,sn,sub,ab,col,dd,k0,k1,k2,k3,k5,_,X _ _ ho,.of_isNs (isNs_of_in X ay),nsMap_none_of_in X ay hni,tail_of_in X ht⟩
  .cases q
 .cases q
open L2
noncomputable def gO(a C:YC):HO:=.ext λh=>∃ oe:Obj,h.get? a=some oe/\oe.cls = .ref C
theorem MP(he:h.get? a=some oe)(hc:oe.cls = .ref C):br P w H h a (gO a C) :=
 ⟨⟨oe,he,hc⟩,⟨oe,he⟩,λh1 h2 ⟨o,e,c⟩ k=>⟨o,k o e,c⟩⟩
section
def Dl(K:Yp)(a:YC)(c:V)(H:Hp)(Q:VK):Prop:=∃ C b,H a=some (gO a C)/\XC K C/\jv c ≠ .none/\Zq K (.ref C) (jv c)=some b/\Q (.bl b) H
theorem Dm{K:Yp}(hK:X.K=K):dW X (.builtin "isinstance") (λxs H Q=>∃ a c,xs=[.ref a,c]/\Dl K a c H Q):=by
 subst hK;intro pins s σ H xs us Q I r h;obtain⟨a,c,rfl,C,b,ha,xc,hc,e,q⟩:=h;obtain⟨u,v,rfl,rx,rc⟩:=vals2 r;have ev:v=jv c:=by
  cases c with
  | ref a=>exact rc
  | ty n=>exact rc
  | non=>exact absurd rfl hc
  | bl _=>exact absurd rfl hc
  | int _=>exact absurd rfl hc
  | str _=>exact absurd rfl hc
  | byt _=>exact absurd rfl hc
  | flt _=>exact absurd rfl hc
 subst ev;cases (show u=YU a from rx);obtain⟨hp,_,_⟩:=(show br X.prog X.w H s.heap a (gO a C) from I.ay a _ ha)
 exact ZG (MN xc) I.bY hp e (λz=>nomatch z) λtk=>⟨.bl b,H,I.tok tk,rfl,q⟩
end
theorem Dp{K:Yp}{a C:YC}{c:V}{H:Hp}{Q:VK}{b:Bool}(h:H a=some (gO a C))(xc:XC K C)(hc:jv c ≠ .none)(e:Zq K (.ref C) (jv c)=some b)(q:Q (.bl b) H):Dl K a c H Q:=⟨C,b,h,xc,hc,e,q⟩
end Gz
namespace Gz
open PySem PySem.Spec PyProof.Rows L2
theorem br.some(x:br P w H h a o):∃ ob,h.get? a=some ob:=by
 cases o with
 | lst xs=>obtain⟨_,_,_,_,e⟩:=x;exact⟨_,e⟩
 | tup xs=>obtain⟨_,_,_,o,e,_⟩:=x;exact⟨_,e⟩
 | dK kvs=>obtain⟨_,_,_,_,o,_,_,e,_⟩:=x;exact⟨_,e⟩
 | dT kvs=>obtain⟨_,_,_,_,o,_,_,e,_⟩:=x;exact⟨_,e⟩
 | set S n=>obtain⟨o,_,_,_,e,_⟩:=x;exact⟨_,e⟩
 | ins C dx fs=>obtain⟨_,_,_,e,_⟩:=x;exact⟨_,e⟩
 | own y=>exact x
 | xd fs=>obtain⟨_,⟨_,_,_,e,_⟩,_⟩:=x;exact⟨_,e⟩
 | fF lo hi=>obtain⟨_,_,_,e⟩:=x;exact⟨_,e⟩
 | aQ ob u=>obtain⟨e,_⟩:=x;exact⟨_,e⟩
 | tbl ps=>exact⟨_,x⟩
 | met f y=>exact⟨_,x⟩
 | ext φ=>exact x.2.1
def Dq(X:Cx)(E:XK):Prop:=∀ (pins:List (YC × Obj)) (σ:L2.St) (H:Hp) (s:YB) (e C:YC) (vs:List Yy) (h':aaW),Inv X pins σ H s->Heap.MadeExcOf s.heap h' e (.ref C) vs->E (.ref C) none H->X.xe (.ref e) { s with heap:=h' }
def xo(C:YC)(E:XK)(ta:TA):TS:=λD σ H=>ta σ H λvs H1=>vs.length<=YR/\E (.ref C) none H1
section
theorem iE{x:Str}{np cM pos:Pos}{e₀:acg}{rest:List acg}{ta:TA}{C:YC}{E:XK}(hx:Dq X E)(hg:Gl X x)(hm:X.mg x=some (.ref C))(xc:XC X.K C)(hc:X.calm=true)(ha:PA X (e₀::rest) ta)
 (hd:(x == ("__debug__" : Str))=false:=by decide) (he:YQ (e₀::rest) X.env=(false,eval e₀ X.env)::YQ rest X.env:=by rfl)
 (dM:(aap cM (YQ rest X.env)).any (·.1)=false:=by rfl) :
 PS X (.Raise (some (.Call (.Name x np) (e₀::rest) [] cM)) none pos) (xo C E ta):=by
 intro pins s σ H D I h;obtain⟨tl,N,nm,q,bs,hdct,sn,sub,ab,col,dd,k0,k1,k2,k3,k5,mN,hC,hN,hni,T⟩:=MO I.ok.mod.kin xc;refine wpAny_Raise_call_subU (C:=C) (nm:=nm) (q:=q) (N:=N) (bs:=bs) (bm:=tl) (hdct:=hdct) (sn:=sn) (sub:=sub) (ab:=ab) (col:=col) (dd:=dd) (k0:=k0) (k1:=k1) (k2:=k2) (k3:=k3) (k5:=k5)
  acK (by decide +kernel) acK (mN:=mN) (T.hasType PySem.F.excBase_ValueError.hasBase) (I.ok.hd hc) (by rw[he];show (false || (aap cM (YQ rest X.env)).any (·.1))=false;rw[dM];rfl) hni (pU I hg hm ⟨rfl,?_⟩ hd)
 have qr:=ha cM pins s σ H _ I h;rw[he] at qr ⊢;refine aco (ZD qr (λus s₂ h₂=>?_) λ_ _ y=>y);obtain⟨vs,H1,I1,r,hl,hE⟩:=h₂;exact⟨rfl,by rw[<- r.length];exact hl,I1.bk _ _ hC,hN.keeps I1.bk,T.keeps I1.bk,λh' e hm=>hx pins σ H1 s₂ e C us h' I1 hm hE⟩
end
section
variable{P:Zo}{w:ZZ}{K:Yp}{mg:Str->Option Yy}{base:aaW}{N:List Str}{qual:Str}{scope:adH}{f:YC}{cd:Yy}{A:aac}{outer:List Env}{s:YB}{H:Hp}{E:XK}
theorem Dr(hf:env.frame=some L)(h:b∈aU (env::outer)):b=L∨b∈aU outer:=by unfold aU at h;rw[ZF,hf] at h;exact YK.mp h
theorem iF:Dq (eJ (dm P w) P w K mg base N qual scope f cd A outer s H E) E:=by
 intro pins σ H1 s1 e C vs h1 I hx hE;have qt:(eJ (dm P w) P w K mg base N qual scope f cd A outer s H E).A.frames=some (aaf qual scope s.heap.objs.size f cd::outer):=I.ok.frames;have hF:s1.heap.FunFrames base (aaf qual scope s.heap.objs.size f cd::outer):=I.stack;have bI:∀ env∈(aaf qual scope s.heap.objs.size f cd::outer),∀ b,env.frame=some b->b∈aU (aaf qual scope s.heap.objs.size f cd::outer):=λenv he b hb=>acM.mpr ⟨env,he,hb⟩;have MQ:∀ b∈aU (aaf qual scope s.heap.objs.size f cd::outer),H1 b=none:=I.nK;have nM:∀ b o,s.heap.get? b=some o->b≠s.heap.objs.size:=λb o e=>YH (Yv e);have jZ:∀ b o,s.heap.get? b=some o->b∉aU outer->b∉aU (aaf qual scope s.heap.objs.size f cd::outer):=λb o e hb z=>by
  rcases Dr rfl z with z|z
  .exact nM b o e z
  .exact hb z
 have ub:Un (aU outer) [] H H1 s.heap s1.heap:=I.base;refine wpAny_leaves_madeW (base:=adT s1.heap (aU (aaf qual scope s.heap.objs.size f cd::outer))) qt rfl (λb o q=>aeC _ q) (PySem.W.funFrames_hide hF bI) hx λh' t fl tup bt up=>?_;have stays:=fl.1;have n5:∀ b o,s1.heap.get? b=some o->b∉aU (aaf qual scope s.heap.objs.size f cd::outer)->(adT s1.heap (aU (aaf qual scope s.heap.objs.size f cd::outer))).get? b=some o:=λb o q hb=>aep _ q hb;have lh:∀ b∈aU (aaf qual scope s.heap.objs.size f cd::outer),∀ o,s1.heap.get? b=some o->∃ sl,h'.get? b=some { o with slots:=sl }:=λb hb o q=>by obtain⟨_,o',b7,hnf⟩:=hF.mem hb;rw[q] at b7;cases b7;exact up b o (hx.keeps b o q) hnf
 refine⟨e,.ref C,.ref t,H1,_,rfl,I.os,I.bare,⟨λb o q n hb cN=>?_,λb o q n hb cN=>?_,ub.free,λb o q cN=>?_,ub.eV,ub.dR,ub.eW⟩,λb o q n hb=>?_,λb o q hb=>?_,λa o q=>?_,?_,?_,fl,hE⟩
 .exact stays b o (n5 b o (ub.keep b o q n hb cN) (jZ b o q hb))
 .obtain⟨sl,e1⟩:=ub.slot b o q n hb cN;obtain⟨eE,e2⟩:=lh b (by unfold aU;rw[ZF];exact Zh _ hb) _ e1;exact⟨eE,e2⟩
 .obtain⟨o',e1⟩:=ub.there b o q cN;by_cases hb:b∈aU (aaf qual scope s.heap.objs.size f cd::outer)
  .obtain⟨sl,e2⟩:=lh b hb o' e1;exact⟨_,e2⟩
  .exact⟨o',stays b o' (n5 b o' e1 hb)⟩
 .exact n5 b o (ub.keep b o q n hb (by simp)) (jZ b o q hb)
 .obtain⟨o',e1⟩:=ub.there b o q (by simp);exact⟨o',n5 b o' e1 (jZ b o q hb)⟩
 .refine (I.ay a o q).fG (λb u hb z=>n5 b u z λhm=>?_) (λ_ z=>z) λ_ _ z=>z;have:=MQ b hm;rcases hb with hb|hb
  .rw[hb,q] at this;cases this
  .rw[hb] at this;cases this
 .cases q:H1 e with
  | none=>rfl
  | some u =>
   obtain⟨ob,z⟩:=br.some (I.ay e u q);rw[hx.new] at z;cases z
 .cases q:s.heap.get? e with
  | none=>rfl
  | some u =>
   obtain⟨o',z⟩:=ub.there e u q (by simp);rw[hx.new] at z;cases z
theorem cE:Passes (dm P w) (eJ (dm P w) P w K mg base N qual scope f cd A outer s H E) E:=by
 intro pins σ H1 s1 ev s2 I cx;obtain⟨x,cls,a0,H',B,rfl,os,bare,un,kb,tb,ay,hx,hn,fl,hE⟩:=cx;have qt:(eJ (dm P w) P w K mg base N qual scope f cd A outer s H E).A.frames=some (aaf qual scope s.heap.objs.size f cd::outer):=I.ok.frames;have hF:s1.heap.FunFrames base (aaf qual scope s.heap.objs.size f cd::outer):=I.stack;have nM:∀ b o,s.heap.get? b=some o->b≠s.heap.objs.size:=λb o e=>YH (Yv e);have jZ:∀ b o,s.heap.get? b=some o->b∉aU outer->b∉aU (aaf qual scope s.heap.objs.size f cd::outer):=λb o e hb z=>by
  rcases Dr rfl z with z|z
  .exact nM b o e z
  .exact hb z
 have MR:∀ b,b∈aU outer->b∈aU (aaf qual scope s.heap.objs.size f cd::outer):=λb hb=>by unfold aU;rw[ZF];exact Zh _ hb
 have ub:Un (aU outer) [] H H1 s.heap s1.heap:=I.base;have Ds:Un (aU (aaf qual scope s.heap.objs.size f cd::outer)) [] H1 H' s1.heap s2.heap:=un;have Dt:∀ b o,s1.heap.get? b=some o->H1 b=none->b∉aU (aaf qual scope s.heap.objs.size f cd::outer)->B.get? b=some o:=kb;have iG:∀ b o,s1.heap.get? b=some o->b∉aU (aaf qual scope s.heap.objs.size f cd::outer)->∃ o',B.get? b=some o':=tb;have xq:∀ b∈aU (aaf qual scope s.heap.objs.size f cd::outer),H1 b=none:=I.nK;refine wpAny_leaves_onW qt rfl fl λh' ug up=>?_;have stays:=ug.1;have lh:∀ b∈aU (aaf qual scope s.heap.objs.size f cd::outer),∀ o,s1.heap.get? b=some o->∃ sl,h'.get? b=some { o with slots:=sl }:=λb hb o q=>by obtain⟨_,o',b7,hnf⟩:=hF.mem hb;rw[q] at b7;cases b7;obtain⟨sl,e1⟩:=Ds.slot b o q (xq b hb) hb (by simp);obtain⟨eE,e2⟩:=up b _ e1 hnf;exact⟨eE,e2⟩
 refine⟨x,cls,a0,H',B,rfl,os.trans I.os,bare,⟨λb o q n hb cN=>?_,λb o q n hb cN=>?_,λb o q n cN=>?_,λb o q cN=>?_,λb xs q=>un.eV _ _ (ub.eV _ _ q),λb o u q=>un.dR _ _ _ (ub.dR _ _ _ q),λb ps q=>?_⟩,λb o q n hb=>?_,λb o q hb=>?_,ay,hx,?_,ug,hE⟩
 .exact stays b o (Dt b o (ub.keep b o q n hb cN) (ub.free b o q n cN) (jZ b o q hb))
 .obtain⟨sl,e1⟩:=ub.slot b o q n hb cN;obtain⟨eE,e2⟩:=lh b (MR b hb) _ e1;exact⟨eE,e2⟩
 .obtain⟨o',e1⟩:=ub.there b o q cN;exact Ds.free b o' e1 (ub.free b o q n cN) (by simp)
 .obtain⟨o',e1⟩:=ub.there b o q cN;by_cases hb:b∈aU (aaf qual scope s.heap.objs.size f cd::outer)
  .obtain⟨sl,e2⟩:=lh b hb o' e1;exact⟨_,e2⟩
  .obtain⟨o2,e2⟩:=iG b o' e1 hb;exact⟨o2,stays b o2 e2⟩
 .obtain⟨m1,e1⟩:=ub.eW b ps q;obtain⟨m2,e2⟩:=un.eW b _ e1;exact⟨m1++m2,by rw[e2,aeD]⟩
 .exact Dt b o (ub.keep b o q n hb (by simp)) (ub.free b o q n (by simp)) (jZ b o q hb)
 .obtain⟨o',e1⟩:=ub.there b o q (by simp);exact iG b o' e1 (jZ b o q hb)
 .cases q:s.heap.get? x with
  | none=>rfl
  | some u =>
   obtain⟨o',z⟩:=ub.there x u q (by simp);rw[hn] at z;cases z
theorem iH{x qual:Str}{st:aaj}{f:YC}{fd:abu}{N ps:List Str}{k:Nat}{sp:Sp}(F:mF K x qual st f fd)(S:qj N ps (dk st))(len:∀ vs H Q E,sp vs H Q E->vs.length=ps.length)
 (gp:∀ (aV:Yy) (A:aac) (outer:List Env) (s:YB) (H:Hp) (vs:List V) (Q:VK) (E:XK),bN k (A.deeper (aaf qual (dk st) s.heap.objs.size f aV))->sp vs H Q E ->
   ∃ t,aM (eJ (dm P w) P w K mg base N qual (dk st) f aV A outer s H E) (gN st) t/\t { nx:=λ_ H'=>Q .non H',rt:=Q } (start N vs) H):dX P w K mg base (dm P w) (k+1) f fd ps sp:=by
 obtain⟨oc,od,kV,doc,pm,an,aV,ct,jq,rfl,lk,fq⟩:=F.ex;refine CJ lk fq S len λA outer s H vs Q E hr k7=>?_;exact gp aV A outer s H vs Q E hr k7
end
noncomputable abbrev Xp(X:Cx)(F:Yy->YB->Prop)(pn:List (YC × Obj)):Cx:={ X with xe:=F,pn:=pn }
noncomputable abbrev Xh(X:Cx)(A':aac)(pn:List (YC × Obj)):Cx:={ X with A:=A',calm:=false,xe:=λ_ _=>False,pn:=pn }
def MS(K:Yp)(m i:Nat)(G:YC)(tb th:TS)(E':XK):TS:=λD σ H=>tb D σ H/\∀ cls H',E' cls none H'->∃ C,cls = .ref C/\acV K (.ref C) (.ref G)=some true /\
 ∀ a,H' a=none->th { nx:=λσ' H2=>D.nx (σ'.set i none) H2,rt:=D.rt,bk:=λσ' H2=>D.bk (σ'.set i none) H2,ct:=λσ' H2=>D.ct (σ'.set i none) H2 } ((aaL m none).set i (some (.ref a))) (upd H' a (gO a C))
section
theorem MT(ok:X.Ok):(Xp X F pn).Ok:=⟨ok.mod,ok.kind,ok.glob,ok.blt,ok.above,ok.inj,ok.has,ok.cab,ok.hd,ok.frames,ok.stk,ok.exf,ok.bs,ok.bsz,ok.noex,ok.exfs,ok.fo,ok.frf⟩
theorem Du(ok:(Xp X F pn).Ok):X.Ok:=⟨ok.mod,ok.kind,ok.glob,ok.blt,ok.above,ok.inj,ok.has,ok.cab,ok.hd,ok.frames,ok.stk,ok.exf,ok.bs,ok.bsz,ok.noex,ok.exfs,ok.fo,ok.frf⟩
theorem MU(ok:X.Ok)(hA:A'.frames=X.A.frames):(Xh X A' pn).Ok:=⟨ok.mod,ok.kind,ok.glob,ok.blt,ok.above,ok.inj,ok.has,ok.cab,(λz=>nomatch z),hA.trans ok.frames,ok.stk,ok.exf,ok.bs,ok.bsz,ok.noex,ok.exfs,ok.fo,ok.frf⟩
theorem MV(I:Inv X pins σ H s):Inv (Xp X F (X.pn++pins)) [] σ H s:=⟨MT I.ok,I.os,I.bare,I.base,I.loc,I.cell,I.free,I.eB,λp hp=>I.pin p (by simpa using hp),I.ay,I.len⟩
theorem uh(I:Inv (Xp X F (X.pn++pins)) [] σ H s):Inv X pins σ H s:=⟨Du I.ok,I.os,I.bare,I.base,I.loc,I.cell,I.free,I.eB,λp hp=>I.pin p (by simpa using hp),I.ay,I.len⟩
theorem Dv(I:Inv (Xp X F pn) wy σ H s)(hA:A'.frames=X.A.frames):Inv (Xh X A' pn) [] σ H s :=
 ⟨MU (Du I.ok) hA,I.os,I.bare,I.base,I.loc,I.cell,I.free,I.eB,λp hp=>I.pin p (by simp at hp;exact Z4 _ hp),I.ay,I.len⟩
theorem SP.MW(h:SP (Xp X F (X.pn++pins)) [] D f s'):SP X pins D f s':=by
 cases f with
 | next=>obtain⟨σ',H',I,q⟩:=h;exact⟨σ',H',uh I,q⟩
 | brk=>obtain⟨σ',H',I,q⟩:=h;exact⟨σ',H',uh I,q⟩
 | cont=>obtain⟨σ',H',I,q⟩:=h;exact⟨σ',H',uh I,q⟩
 | ret u=>obtain⟨v,σ',H',I,r,q⟩:=h;exact⟨v,σ',H',uh I,r,q⟩
theorem ui(iH:X.Ok)(I:Inv (Xh X A' (X.pn++pins)) [] σ H s)(hN:X.N.Nodup)(hi:X.N[i]?=some n)(hl:X.env.scope.names.lookup n=some .local)(h:∀ s',Inv X pins (σ.set i none) H s'->Q () s'):YL M A (do bindName X.env n .none;unbindBehindTheSuite X.env n qu) Q E s:=by
 obtain⟨m,hn,hlk⟩:=id I.loc;have wA:(X.env.scope.kind == .class || (X.env.scope.kind == .module && X.env.locals != X.env.globals))=false:=by rw[I.ok.kind];rfl
 have iu:∀ x c,X.env.cells.lookup x=some c->c≠X.env.locals:=I.iu;have Dw:H X.env.locals=none:=I.free;obtain⟨oL,_,_,BU,_⟩:=id hn;refine wpAny_nameGoes_keeps hl hn wA λh' v jg hs=>?_;have tracked:bK X.prog X.w H h':=λb ob e=>by
  refine (I.ay b ob e).fG (λc w' hc q=>(hs.2 c ?_).trans q) (λ_ q=>q) λ_ _ q=>q;rintro rfl;rcases hc with hc|hc
  .rw[<- hc,Dw] at e;cases e
  .rw[Dw] at hc;cases hc
 have eZ:X.s₀.heap.objs.size<=X.env.locals:=iH.above;refine h _ ⟨iH,I.os,I.bare,⟨λb o e nn hb hx=>?_,λb o e nn hb hx=>?_,I.base.free,λb o e hx=>?_,I.base.eV,I.base.dR,I.base.eW⟩,⟨_,jg,λj y v' e1 e2 e3=>?_⟩,λy c e=>?_,I.free,I.eB,λp hp=>?_,tracked,by simpa using I.len⟩
 .exact (hs.2 b (YH (YJ (Yv e) eZ))).trans (I.base.keep b o e nn hb hx)
 .obtain⟨sl,e1⟩:=I.base.slot b o e nn hb hx;exact⟨sl,(hs.2 b (YH (YJ (Yv e) eZ))).trans e1⟩
 .obtain⟨o',e1⟩:=I.base.there b o e hx;exact⟨o',(hs.2 b (YH (YJ (Yv e) eZ))).trans e1⟩
 .have Dx:j≠i:=by
   rintro rfl;by_cases aT:j<σ.length
   .rw[abT aT] at e2;cases e2
   .rw[ZV (by rw[adZ];lia)] at e2;cases e2
  rw[acn (Zj Dx)] at e2;obtain⟨u',r',q⟩:=hlk j y v' e1 e2 e3;refine⟨u',r',?_⟩;rcases q with ⟨k,e⟩|⟨k,c,e,z⟩
  .refine .inl ⟨k,?_⟩;have:y≠n:=λe=>Dx (wz hN e1 (e ▸ hi));simp[this,e]
  .exact .inr ⟨k,c,e,z.sameBut hs (iu y c e)⟩
 .obtain⟨w',z⟩:=I.cell y c e;exact⟨w',z.sameBut hs (iu y c e)⟩
 .obtain⟨e,nn,ne,nf,d⟩:=I.pin p (by simpa using hp);exact⟨(hs.2 p.1 ne).trans e,nn,ne,nf,d⟩
theorem MX(E':XK)(i:Nat)(cn:X.stack=X.env::X.outer)(MY:X.env.frame=some X.env.locals)(hg:Gl X x)(hm:X.mg x=some (.ref G))(hN:X.N.Nodup)(hi:X.N[i]?=some n)(hl:X.env.scope.names.lookup n=some .local)(hb:∀ F pn,Passes (dm X.prog X.w) (Xp X F pn) E'->aM (Xp X F pn) body tb)(hh:∀ A' pn,aM (Xh X A' pn) (b₀::suite) th)(hd:(x == ("__debug__" : Str))=false:=by decide)(hf:X.fn n=true∨X.env.scope.names.lookup n=some .local:=by first|exact .inl rfl|exact .inr rfl|assumption) :
 PS X (.Try body [.ExceptHandler (some (.Name x np)) (some n) (b₀::suite) qu] [] [] pos) (MS X.K X.N.length i G tb th E'):=by
 intro pins s σ H D I h;obtain⟨h1,h2⟩:=h;refine wpAny_Try_except ?_;refine ZD (hb (λe s₁=>YL (model X.prog X.w) X.A (noteFrame e X.env) (λ_ s₂=>YL (model X.prog X.w) X.A (setFlight e none) (λ_ s₃=>YL (model X.prog X.w) X.A (handleBy e X.env [.ExceptHandler (some (.Name x np)) (some n) (b₀::suite) qu]) (SP X pins D) X.xe s₃) X.xe s₂) X.xe s₁) (X.pn++pins) ?_ [] s σ H D (MV I) h1) (λf s1 q=>?_) λe s1 q=>q
 .intro wy σ' H1 s1 ev s2 I1 cx;obtain⟨xx,cls,a0,H',B,rfl,os,bare,un,kb,iG,ay,hx,hn,fl,hE⟩:=cx;obtain⟨C,rfl,km,hth⟩:=h2 cls H' hE;have iH:=I.ok;have qt:X.A.frames=some (X.env::X.outer):=by rw[<- cn];exact iH.frames
  have ug:afo B (X.env::X.outer) xx (.ref C) a0 s2.heap:=by have z:afo B X.stack xx (.ref C) a0 s2.heap:=fl;rw[cn] at z;exact z
  have hF:s1.heap.FunFrames X.base X.stack:=I1.stack;have xq:∀ b∈aU X.stack,H1 b=none:=I1.nK;have Dy:∀ h:aaW,B.StaysIn h->s2.heap.UpToSlots h->Un (aU X.stack) [] H1 H' s1.heap h:=λh stays up=>by
   have lh:∀ b∈aU X.stack,∀ o,s1.heap.get? b=some o->∃ sl,h.get? b=some { o with slots:=sl }:=λb hb o q=>by obtain⟨_,o',b7,hnf⟩:=hF.mem hb;rw[q] at b7;cases b7;obtain⟨sl,e1⟩:=un.slot b o q (xq b hb) hb (by simp);obtain⟨eE,e2⟩:=up b _ e1 hnf;exact⟨eE,e2⟩
   refine⟨λb o q nn hb cN=>stays b o (kb b o q nn hb),λb o q nn hb cN=>lh b hb o q,un.free,λb o q cN=>?_,un.eV,un.dR,un.eW⟩;by_cases hb:b∈aU X.stack
   .obtain⟨sl,e2⟩:=lh b hb o q;exact⟨_,e2⟩
   .obtain⟨o2,e2⟩:=iG b o q hb;exact⟨o2,stays b o2 e2⟩
  refine wpAny_looks_onW qt MY ug λh₄ MZ M0=>?_;refine wpAny_landsW MZ λh₅ uj M4=>?_;have Dz:s2.heap.UpToSlots h₅:=M0.trans M4;have I5:Inv (Xh X (X.A.mark (some (.ref xx))) (X.pn++pins)) [] σ' H' { s2 with heap:=h₅ }:=by
   refine Dv (I1.wD (s':={ s2 with heap:=h₅ }) (ch:=[]) os (Dy h₅ uj.1 Dz) (ay.kept λb u q=>uj.1 b u q) bare (λb z=>absurd z (by simp))) ?_
   first|rfl|simp
  refine wpAny_handleBy_cons (codeAny_handlers_test ?_) (by intro q;cases q);refine pU (X:=Xh X (X.A.mark (some (.ref xx))) (X.pn++pins)) I5 hg hm ?_ hd;obtain⟨ob,hob,hobc⟩:=uj.there;have LT:PySem.W.Looks (model X.prog X.w) h₅ (agv (.ref xx)) (.ref C):=hobc ▸ (PySem.W.Looks.ld hob).andThen .now;refine (PySem.W.exm_one (M:=model X.prog X.w) (h:=h₅) I5.bY LT km).here ?_;refine codeAny_handlers_suite_as ?_;refine lands_againW uj λh₆ xr M5=>?_;have M6:s2.heap.UpToSlots h₆:=Dz.trans M5;obtain⟨oe,hoe,hoec⟩:=xr.there;have u6:=Dy h₆ xr.1 M6;have M7:∀ b o,s1.heap.get? b=some o->b≠xx:=λb o q z=>by rw[z,hn] at q;cases q
  have qv:∀ b o,H' b=some o->b≠xx:=λb o q z=>by rw[z,hx] at q;cases q
  have M8:Un (aU X.stack) [] H1 (upd H' xx (gO xx C)) s1.heap h₆:=by
   refine⟨u6.keep,u6.slot,λb o q nn cN=>?_,u6.there,λb xs q=>?_,λb o u q=>?_,λb ps q=>?_⟩
   .rw[aD (M7 b o q)];exact u6.free b o q nn cN
   .have:=u6.eV b xs q;rw[aD (qv b _ this)];exact this
   .have:=u6.dR b o u q;rw[aD (qv b _ this)];exact this
   .obtain⟨more,z⟩:=u6.eW b ps q;exact⟨more,by rw[aD (qv b _ z)];exact z⟩
  have M9:bK X.prog X.w (upd H' xx (gO xx C)) h₆:=λb u q=>by
   by_cases bS:b=xx
   .subst bS;rw[ax] at q;cases q;exact MP hoe hoec
   .rw[aD bS] at q;exact (ay b u q).fG (λc v _ z=>xr.1 c v z) (λc z=>by rw[aD (qv c _ z)];exact z) λc xs z=>by rw[aD (qv c _ z)];exact z
  have I6:Inv (Xh X (X.A.mark (some (.ref xx))) (X.pn++pins)) [] σ' (upd H' xx (gO xx C)) { s2 with heap:=h₆ }:=by
   refine Dv (I1.wD (s':={ s2 with heap:=h₆ }) (ch:=[]) os M8 M9 bare (λb z=>absurd z (by simp))) ?_
   first|rfl|simp
  have I7:Inv (Xh X (X.A.mark (some (.ref xx))) (X.pn++pins)) [] (aaL X.N.length none) (upd H' xx (gO xx C)) { s2 with heap:=h₆ } :=
   I6.weak (by rw[ab9,I6.len]) λj v z=>by rw[aaZ] at z;split at z<;>cases z
  refine wC (X:=Xh X (X.A.mark (some (.ref xx))) (X.pn++pins)) (v:=.ref xx) I7 hN hi (.inl hl) rfl (λs8 I8=>?_) hf;refine ZD (hh (X.A.mark (some (.ref xx))) (X.pn++pins) [] s8 _ _ _ I8 (hth xx hx)) (λfl s9 q=>?_) λ_ _ z=>z.elim;cases fl with
  | next =>
   obtain⟨σ9,H9,I9,q⟩:=q;exact ui iH I9 hN hi hl λs' J=>⟨_,_,J,q⟩
  | brk =>
   obtain⟨σ9,H9,I9,q⟩:=q;exact ui iH I9 hN hi hl λs' J=>⟨_,_,J,q⟩
  | cont =>
   obtain⟨σ9,H9,I9,q⟩:=q;exact ui iH I9 hN hi hl λs' J=>⟨_,_,J,q⟩
  | ret u =>
   obtain⟨v,σ9,H9,I9,r,q⟩:=q;exact ui iH I9 hN hi hl λs' J=>⟨v,_,_,J,r,q⟩
 .have q':=SP.MW q;cases f with
  | next =>
   obtain⟨σ',H',I',q'⟩:=q';exact acq ⟨σ',H',I',q'⟩
  | brk=>exact q'
  | cont=>exact q'
  | ret u=>exact q'
end
theorem Na{K:Yp}{C G:YC}{cd:ClassData}{b:Bool}(h1:aeN K G=some cd)(h2:acT K (.ref G)=some (.type "type"))(h3:abP K (.ref C) (.ref G)=some b)(h4:abP K (.ref G) (.type "BaseException")=some true) :
 acV K (.ref C) (.ref G)=some b:=by
 unfold acV;rw[if_pos (by rw[h4];rfl)];show (if ((aeN K G).isSome && acT K (.ref G) == some (.type "type"))=true then abP K (.ref C) (.ref G) else none)=some b;rw[if_pos (by rw[h1,h2];rfl)];exact h3
local macro_rules | `(tactic| walk_at "o") => `(tactic| ((try simp only [PySem.Addr] at *); lia))
inductive jy(X:Cx)(scope:adH)(cl:List (Str × YC)):List Nat->List Str->Prop where
 | nil:jy X scope cl [] []
 | cons {j:Nat} {y:Str} {c:YC} {js:List Nat} {ys:List Str} (hN:X.N[j]?=some y) (hk:X.env.kindOf y=some .cell) (h1:cl.lookup y=some c) (h2:X.env.cells.lookup y=some c) (h:jy X scope cl js ys):jy X scope cl (j::js) (y::ys)
inductive lj(X:Cx):List (Str × YC)->Prop where
 | nil:lj X []
 | cons {n:Str} {a:YC} {r:List (Str × YC)} (h:X.env.cells.lookup n=some a) (t:lj X r):lj X ((n,a)::r)
theorem lj.get:∀ {cl:List (Str × YC)},lj X cl->∀ y c,cl.lookup y=some c->X.env.cells.lookup y=some c
 | _,.nil,y,c,e=>by simp at e
 | _,.cons (n:=n) h t,y,c,e=>by
  rw[Z6] at e;by_cases hy:(y == n)=true
  .rw[hy] at e;have e1:y=n:=by simpa using hy
   cases e;rw[e1];exact h
  .rw[abh.mpr hy] at e;exact t.get y c e
theorem jy.get{X:Cx}{scope:adH}{cl:List (Str × YC)}{σ:L2.St}:∀ {js:List Nat} {ys:List Str},jy X scope cl js ys->∀ (i:Nat) (y:Str) (v:V),ys[i]?=some y->(js.map λj=>(σ[j]?).join)[i]?=some (some v) ->
 ∃ (j:Nat) (c:YC),X.N[j]?=some y/\σ[j]?=some (some v)/\X.env.kindOf y=some .cell/\cl.lookup y=some c/\X.env.cells.lookup y=some c
 | _,_,.nil,i,y,v,e,_=>by simp at e
 | _,_,.cons (j:=j) hN hk h1 h2 h,0,y,v,e,q=>by
  simp at e q;subst e;refine⟨j,_,hN,?_,hk,h1,h2⟩;cases z:σ[j]? with
  | none=>rw[z] at q;simp at q
  | some o=>rw[z] at q;simp at q;rw[q]
 | _,_,.cons hN hk h1 h2 h,i+1,y,v,e,q=>by simp only[aal,YV] at e q;exact h.get i y v e q
theorem jy.len:∀ {js:List Nat} {ys:List Str},jy X scope cl js ys->js.length=ys.length
 | _,_,.nil=>rfl
 | _,_,.cons _ _ _ _ h=>by simp[h.len]
noncomputable def dn(X:Cx)(N':List Str)(scope:adH)(cl:List (Str × YC))(C:YC)(s2:YB)(H2:Hp)(ex:List YC)(pn:List (YC × Obj)):Cx :=
 { X with N:=N',s₀:=s2,H₀:=H2,env:=afx scope cl C X.env,outer:=X.stack,ex:=ex,fn:=λ_=>false,pn:=pn,xe:=λ_ _=>False }
structure bP(X:Cx)(x:Str)(scope:adH)(cl:List (Str × YC))(fr:List Nat)(ys:List Str):Prop where
 clos:aga scope X.env=pure cl
 nocell:(scope.names.all λp=>p.2 != .cell)=true
 kind:scope.kind = .function
 names:(scope.names.all λp=>p.2 != .local || scope.names.lookup p.1 == some .local)=true
 own:scope.names.lookup x=some .local
 kinds:((relabel scope X.env).names.all λp=>(p.2 != .cell && p.2 != .free) || (cl.lookup p.1).isSome)=true
 cls:lj X cl
 aU:jy X scope cl fr ys
 nd:(x::ys).Nodup
 kfr:(ys.all λy=>(relabel scope X.env).names.lookup y == some .cell)=true
def iI(X:Cx)(ifs:List acg)(t:TT):Prop :=
 ∀ (pins:List (YC × Obj)) (s:YB) (σ:L2.St) (H:Hp) (Q:Bool->Hp->Prop),Inv X pins σ H s->t σ H Q ->
  YL (model X.prog X.w) X.A (forIn ifs true λc r=>if r=true then do let ok <- agr c X.env (eval c X.env);pure (acy ok) else pure (acy r)) (TP X pins σ Q) X.xe s
def xt:TT:=λ_ H Q=>Q true H
theorem dO:iI X [] xt:=λ_ _ _ H _ I h=>wpAny_tests_nil ⟨H,I,h⟩
theorem gP(hc:PT X c t):iI X [c] t:=λpins s σ H Q I h=>wpAny_tests_one (hc pins s σ H Q I h)
def ko(J:It)(ρ:L2.St)(tt:TT)(te:TE)(H:Hp)(Q:VK):Prop:=∃ W:Nat->Nat->List V->Hp->Prop,(∃ m,W 0 m [] H)/\∀ i m ys H,W i m ys H ->
 (J.stop i H/\ys.length<=YR/\∀ l,H l=none->Q (.ref l) (upd H l (.lst ys)))∨(J.go i H/\ys.length<YR/\∃ N:List V->Hp->Prop,(∀ zs H',N zs H'->∃ m',m'<m/\W (i+1) m' zs H') /\
  ∀ x H',J.yld i H x H'->tt (some x::ρ) H' λb H1=>if b=true then te (some x::ρ) H1 λy H2=>N (ys++[y]) H2 else N ys H1)
def uk(wi:TI)(fr:List Nat)(tt:TT)(te:TE):TE:=λσ H Q=>wi σ H λJ H1=>ko J (fr.map λj=>(σ[j]?).join) tt te H1 Q
structure kr(X:Cx)(own:List Str)(scope:adH)(cl:List (Str × YC))(fr:List Nat)(ys:List Str):Prop where
 clos:aga scope X.env=pure cl
 nocell:(scope.names.all λp=>p.2 != .cell)=true
 kind:scope.kind = .function
 names:(scope.names.all λp=>p.2 != .local || scope.names.lookup p.1 == some .local)=true
 kinds:((relabel scope X.env).names.all λp=>(p.2 != .cell && p.2 != .free) || (cl.lookup p.1).isSome)=true
 cls:lj X cl
 aU:jy X scope cl fr ys
 kfr:(ys.all λy=>(relabel scope X.env).names.lookup y == some .cell)=true
def jz(k:Nat)(J:It)(g:TG)(ρ:L2.St)(tt:TT)(te:TE)(H:Hp)(Q:VK):Prop:=∃ W:Nat->Nat->List V->Hp->Prop,(∃ m,W 0 m [] H)/\∀ i m ys H,W i m ys H ->
 (J.stop i H/\ys.length<=YR/\∀ l,H l=none->Q (.ref l) (upd H l (.lst ys)))∨(J.go i H/\ys.length<YR/\∃ N:List V->Hp->Prop,(∀ zs H',N zs H'->∃ m',m'<m/\W (i+1) m' zs H') /\
  ∀ os:List (Option V),os.length=k->∀ x H',J.yld i H x H'->g x (os++ρ) H' λσ2 H2=>∃ nT,nT.length=k/\σ2=nT++ρ/\tt σ2 H2 λb H1=>if b=true then te σ2 H1 λy H2=>N (ys++[y]) H2 else N ys H1)
def DA(k:Nat)(wi:TI)(g:TG)(fr:List Nat)(tt:TT)(te:TE):TE:=λσ H Q=>wi σ H λJ H1=>jz k J g (fr.map λj=>(σ[j]?).join) tt te H1 Q
theorem Nb(I:Nat->YB->Prop)(turn:∀ n s,I n s->YL (model prog w) A (aa9 it) (λr s₁=>match r with
 | none=>R (.ok .next) s₁
 | some v=>YL (model prog w) A (acs target it v) (λ_ DB=>YL (model prog w) A (assign target env v) (λ_ s₂ =>
  YL (model prog w) A (forIn ifs true λc r=>if r=true then do let ok <- agr c env (eval c env);pure (acy ok) else pure (acy r)) (λok s₃ =>
   if ok=true then YL (model prog w) A (eval elt env) (λx s₄ =>
    YL (model prog w) A (call (.builtin "list.append") [acc,x]) (λ_ s₅=>∃ m,m<n/\I m s₅) (afK (model prog w) A env λe s'=>R (.error e) s') s₄) (afK (model prog w) A env λe s'=>R (.error e) s') s₃
   else ∃ m,m<n/\I m s₃) (afK (model prog w) A env λe s'=>R (.error e) s') s₂) (afK (model prog w) A env λe s'=>R (.error e) s') DB) (afK (model prog w) A env λe s'=>R (.error e) s') s₁) (afK (model prog w) A env λe s'=>R (.error e) s') s) (n:Nat) (h:I n s) :
 abb (model prog w) A (.compLoop (.ListComp elt [⟨target,iter,ifs,0⟩] scope pos) 0 it acc env) R s:=by
 refine codeAny_loop rfl I (λn s hI=>?_) n h;show YL _ A ((compTurn (.ListComp elt [⟨target,iter,ifs,0⟩] scope pos) 0 it acc env).onRaise (λx=>do noteFrame x env;theTreesLotGoes x)) _ _ s;refine wpAny_noted ?_;rw[compTurn_list];refine Yo (aeF (Yo (ZD (turn n s hI) (λr s₁ h₁=>?_) λ_ _ h'=>h')));cases r with
 | none=>exact Yu h₁
 | some v =>
  refine Yo (ZD h₁ (λ_ DB Nc=>?_) λ_ _ h'=>h');refine Yo (ZD Nc (λ_ s₂ h₂=>Yo (ZD h₂ (λok s₃ h₃=>?_) λ_ _ h'=>h')) λ_ _ h'=>h');cases ok with
  | false=>exact Yu ⟨rfl,h₃⟩
  | true =>
   exact Yo (Yo (ZD h₃ (λx s₄ h₄=>Yo (ZD h₄ (λ_ s₅ h₅=>Yu (Yu ⟨rfl,h₅⟩)) λ_ _ h'=>h')) λ_ _ h'=>h'))
theorem um{l:List (Str × adq)}{p:Str × adq->Bool}(h:l.all p=true){y:Str}{k:adq}(e:l.lookup y=some k):p (y,k)=true:=by exact Z7.mp h _ (aav e)
def xu(i:Nat)(te:TE):TS:=λD σ H=>te σ H λv H1=>D.nx (σ.set i (some v)) H1
section
theorem Nd(S:kr X own scope cl fr ys)(I2:Inv X pins σ H2 s2)(f2:∀ b∈ex,cS X pins H2 b)(hC:s2.heap.objs.size<=C)(hex:∀ b∈ex,b<s2.heap.objs.size):(dn X (own++ys) scope cl C s2 H2 ex pn).Ok:=by
 refine⟨I2.ok.mod,S.kind,I2.ok.glob,I2.ok.blt,hC,λa b c h1 h2=>?_,λy hy=>?_,λ_ _ z=>(nomatch z),I2.ok.hd,I2.ok.frames,.inl rfl,λb hb=>⟨?_,λy c e z=>?_⟩,I2.bs,Yw I2.ok.bsz I2.sz,λb o e hb=>?_,λb hb z=>?_,I2.stack,I2.nK⟩
 .exact I2.ok.inj a b c (S.cls.get a c h1) (S.cls.get b c h2)
 .have xy:(relabel scope X.env).names.lookup y=some .cell∨(relabel scope X.env).names.lookup y=some .free:=hy;have q:(cl.lookup y).isSome=true:=by
   rcases xy with e|e
   .simpa using um S.kinds e
   .simpa using um S.kinds e
  exact aaQ.mp q
 .exact YH (YJ (hex b hb) hC)
 .exact (f2 b hb).2.2.2.2.1 y c (S.cls.get y c e) z
 .obtain⟨_,_,_,d,_,_⟩:=f2 b hb;rcases d with d|d
  .exact I2.ok.noex b o e d
  .exact absurd (YJ (Yv e) (Yw I2.ok.bsz d)) (ZK _)
 .obtain⟨_,d1,d2,_⟩:=f2 b hb;rcases YK.mp (I2.mw b z) with q|q
  .exact d1 q
  .exact d2 q
noncomputable def iJ(X:Cx)(N':List Str)(fn:Str->Bool)(scope:adH)(cl:List (Str × YC))(C:YC)(s2:YB)(H2:Hp)(ex:List YC)(pn:List (YC × Obj)):Cx :=
 { X with N:=N',s₀:=s2,H₀:=H2,env:=afx scope cl C X.env,outer:=X.stack,ex:=ex,fn:=fn,pn:=pn,xe:=λ_ _=>False }
theorem xA{C D:YC}{fp:List YC}(I2:Inv X pins σ H2 s2)(f2:∀ b∈fp,cS X pins H2 b)(hC:s2.heap.objs.size<=C)(hD:s2.heap.objs.size<=D):∀ p∈X.pn++pins,p.1≠C/\p.1≠D/\p.1∉aU X.stack/\∀ b∈fp,p.1≠b:=λp hp=>by
 obtain⟨e,n,nL,nf,_⟩:=I2.pin p hp;have lt:=Yv e;refine⟨by walk_at "o",by walk_at "o",λz=>?_,λb hb=>(f2 b hb).2.2.2.2.2 p hp⟩;rcases YK.mp (I2.mw _ z) with q|q
 .exact nL q
 .exact nf q
theorem DC{J:It}{fp:List YC}{it C D:YC}{tn:Nat->aaW->Prop}{Q:VK}{RR:Yy->YC->aeJ->YB->Prop}{nm:List Str}{fn:Str->Bool}{k:Nat}{os0 ρ:List (Option V)}{h1:aaW}{tk:Nat}
 (hc:X.calm=true) (hg:PG (iJ X nm fn scope cl C s2 H2 fp (X.pn++pins)) tg g) (hb:iI (iJ X nm fn scope cl C s2 H2 fp (X.pn++pins)) ifs tt/\PE (iJ X nm fn scope cl C s2 H2 fp (X.pn++pins)) elt te)
 (I2:Inv X pins σ H2 s2) (T:Turn X.prog X.w X.K tg J fp it tn) (dU:tn 0 s2.heap) (f2:∀ b∈fp,cS X pins H2 b)
 (h:jz k J g ρ tt te H2 Q)
 (qw:∀ D C s' H',Inv X pins σ H' s'->(∃ m,s'.heap.Ns C m)->cS X pins H' C->Q (.ref D) H'->RR (.ref D) C (.ok .next) s')
 (qx:os0.length=k) (I4:Inv (iJ X nm fn scope cl C s2 H2 fp (X.pn++pins)) [] (os0++ρ) H2 { s2 with heap:=h1,toks:=tk }) (keep:∀ b o,s2.heap.get? b=some o->h1.get? b=some o)
 (hD:h1.get? D=some { cls:=.type "list",data:=.seq ([]:List Yy).toArray 0 }) (eD:s2.heap.objs.size=D) (eC:s2.heap.objs.size+1=C)
 (bq:∀ y c,cl.lookup y=some c->c≠D/\∀ b∈fp,c≠b) :
 abb (model X.prog X.w) X.A (.compStart (.ListComp elt [⟨tg,iter,ifs,0⟩] scope pos) 0 (.ref it) (.ref D) (afx scope cl C X.env)) (RR (.ref D) C) { s2 with heap:=h1,toks:=tk }:=by
 obtain⟨W,⟨m0,w0⟩,turn⟩:=h;have jA:D≠C:=by walk_at "o"
 have jB:s2.heap.objs.size<=C:=by walk_at "o"
 have mG:s2.heap.objs.size<=D:=by walk_at "o"
 have jC:∀ b∈fp,b<D:=λb hb=>by obtain⟨o,e,_⟩:=T.obj 0 _ dU b hb;exact eD ▸ Yv e
 have Nf:∀ b,D<=b->b∉aU X.stack:=λb hle z=>by
  rcases YK.mp (I2.mw b z) with q|q
  .have:=I2.lt;walk_at "o"
  .exact I2.BQ (eD ▸ hle) q
 have qy:=xA I2 f2 jB mG;have DD:tn 0 h1:=T.keep 0 _ _ dU λb _ o e=>keep b o e;have xB:∀ (H':Hp) (o:Obj),(∀ b∈fp,H' b=none)->∀ b∈fp,cS (iJ X nm fn scope cl C s2 H2 fp (X.pn++pins)) [(D,o)] H' b:=λH' o hn b hb=>by
  obtain⟨_,d1,d2,d3,d4,d5⟩:=f2 b hb;have lt:=jC b hb;refine⟨hn b hb,?_,λz=>?_,.inl hb,λy c e z=>(bq y c e).2 b hb z,λp hp=>?_⟩
  .show b≠C;walk_at "o"
  .rcases YK.mp (I2.mw b z) with q|q
   .exact d1 q
   .exact d2 q
  .have c6:p∈(X.pn++pins)++[(D,o)]:=hp;rcases Y3.mp c6 with z|z
   .exact d5 p z
   .have:p=(D,o):=by simpa using z
    subst this;show D≠b;walk_at "o"
 have loop:∀ s':YB,s' = { s2 with heap:=h1,toks:=tk } ->
  abb (model X.prog X.w) X.A (.compLoop (.ListComp elt [⟨tg,iter,ifs,0⟩] scope pos) 0 (.ref it) (.ref D) (afx scope cl C X.env)) (RR (.ref D) C) s':=by
  rintro s' rfl;refine Nb (λn s'=>∃ i zs H' os ao nn,os.length=k/\Inv (iJ X nm fn scope cl C s2 H2 fp (X.pn++pins)) [] (os++ρ) H' s'/\tn i s'.heap/\(∀ b∈fp,H' b=none)/\H' D=none /\
   s'.heap.get? D=some { cls:=.type "list",data:=.seq (ao:List Yy).toArray nn }/\Vals zs ao/\W i n zs H') ?_ m0 ⟨0,[],H2,os0,[],0,qx,I4,DD,λb hb=>(f2 b hb).1,I2.ay.fresh mG,hD,.nil,w0⟩
  rintro n s3 ⟨i,zs,H3,DE,ao,nn,Ng,I3,qc,qd,xC,Nh,r3,w3⟩;have DF:Inv (iJ X nm fn scope cl C s2 H2 fp (X.pn++pins)) [(D,{ cls:=.type "list",data:=.seq ao.toArray nn })] (DE++ρ) H3 s3:=I3.pR λp hp=>by
   have:p=(D,{ cls:=.type "list",data:=.seq ao.toArray nn }):=by simpa using hp
   subst this;exact⟨Nh,xC,jA,Nf D (Yz _),λv z=>nomatch z⟩
  rcases turn i n zs H3 w3 with ⟨stop,hlen,q⟩|⟨go,hlen,N,DG,step⟩
  .refine ZD (T.done (iJ X nm fn scope cl C s2 H2 fp (X.pn++pins)) rfl rfl rfl hc i _ s3 _ H3 (λ_ _=>False) DF (xB H3 _ qd) qc stop) (λr s4 zq=>?_) λ_ _ z=>z.elim;obtain⟨hr,J4⟩:=zq;subst hr;have un:=J4.base;have Ni:∀ b o,s2.heap.get? b=some o->b≠D:=λb o e=>by have:=Yv e;walk_at "o"
   have ku:∀ b u,H3 b=some u->b≠D:=λb u e z=>by rw[z,xC] at e;cases e
   refine qw D C s4 (upd H3 D (.lst zs)) ?_ ?_ ?_ (q D xC)
   .refine I2.wD (ch:=fp) J4.os ⟨un.keep,un.slot,λb o e nn hx=>?_,un.there,λb xs e=>?_,λb o u e=>?_,λb ps e=>?_⟩ (λa o e=>?_) J4.bare λb hb=>?_
    .rw[aD (Ni b o e)];exact un.free b o e nn hx
    .have:=un.eV b xs e;rw[aD (ku b _ this)];exact this
    .have:=un.dR b o u e;rw[aD (ku b _ this)];exact this
    .obtain⟨more,this⟩:=un.eW b ps e;exact⟨more,by rw[aD (ku b _ this)];exact this⟩
    .by_cases ha:a=D
     .subst ha;rw[ax] at e;cases e;exact⟨hlen,ao,nn,r3,(J4.pin (a,_) (YX _ (Zc.mpr rfl))).1⟩
     .rw[aD ha] at e;exact (J4.ay a o e).fG (λ_ _ _ z=>z) (λb z=>by rw[aD (ku b _ z)];exact z) λb xs z=>by rw[aD (ku b _ z)];exact z
    .obtain⟨_,d1,d2,d3,d4,d5⟩:=f2 b hb;exact⟨d3,d1,d4,d5⟩
   .obtain⟨m,hm,_⟩:=J4.loc;exact⟨m,hm⟩
   .exact I2.gJ jB (by rw[aD (Zj jA)];exact J4.free)
  .refine ZD (T.item (iJ X nm fn scope cl C s2 H2 fp (X.pn++pins)) rfl rfl rfl hc i _ s3 _ H3 (λ_ _=>False) DF (xB H3 _ qd) qc go) (λr s4 zq=>?_) λ_ _ z=>z.elim;obtain⟨u,hr,h4⟩:=zq;subst hr;refine ZD h4 (λ_ s5 zq=>?_) λ_ _ z=>z.elim;obtain⟨y5,H5,I5,r5,yl,mx,wN⟩:=zq;have wO:=I5.pinned (xB H5 _ wN) (T.obj _ _ mx);refine ZD (hg _ s5 _ H5 y5 u _ wO r5 (step DE Ng y5 H5 yl)) (λ_ s6 zq=>?_) λ_ _ z=>z.elim;obtain⟨σ6,H6,I6,uo,DH,e6,q6⟩:=zq;subst e6;have after:∀ (s7:YB) (H7:Hp),Inv (iJ X nm fn scope cl C s2 H2 fp (X.pn++pins)) ([(D,{ cls:=.type "list",data:=.seq ao.toArray nn })]++qb fp s5.heap) (uo++ρ) H7 s7 ->
    Inv (iJ X nm fn scope cl C s2 H2 fp (X.pn++pins)) [] (uo++ρ) H7 s7/\tn (i+1) s7.heap/\(∀ b∈fp,H7 b=none)/\H7 D=none/\s7.heap.get? D=some { cls:=.type "list",data:=.seq ao.toArray nn }:=λs7 H7 I7=>by
    have pD:=I7.pin (D,{ cls:=.type "list",data:=.seq ao.toArray nn }) (YX _ (Z4 _ (Zc.mpr rfl)));refine⟨I7.pR λp hp=>absurd hp (by simp),T.keep _ _ _ mx λb hb o e=>(I7.pin (b,o) (YX _ (YX _ (tW hb e)))).1,λb hb=>?_,pD.2.1,pD.1⟩;obtain⟨o,e,_⟩:=T.obj _ _ mx b hb;exact (I7.pin (b,o) (YX _ (YX _ (tW hb e)))).2.1
   refine ZD (hb.1 _ s6 _ H6 _ I6 q6) (λok s7 zq=>?_) λ_ _ z=>z.elim;obtain⟨H7,I7,q7⟩:=zq
   try dsimp only at q7
   by_cases ay:ok=true
   .rw[if_pos ay] at q7 ⊢;refine ZD (hb.2 _ s7 _ H7 _ I7 q7) (λyv s8 zq=>?_) λ_ _ z=>z.elim;obtain⟨y8,H8,I8,r8,n8⟩:=zq;obtain⟨m',xD,w8⟩:=DG _ _ n8;obtain⟨J8,Nj,Nk,DI,xE⟩:=after s8 H8 I8;have hl:=r3.length;refine afa aeM ⟨_,xE,rfl⟩ aer (aec _ _) (afb D ao.toArray nn yv (by rw[YD];walk_at "o")) ⟨xE,?_⟩;have DJ:=PySem.IsL.update xE (λa=>a.push yv);rw[List.push_toArray] at DJ;refine⟨m',xD,i+1,zs++[y8],H8,uo,ao++[yv],_,DH,J8.turned (it:=D) (λb o bS e=>(YM _ _ (Zj bS)).trans e) DI jA (.inr mG) (λy c e z=>?_) (λp hp=>?_),T.keep _ _ _ Nj λb bS o e=>?_,Nk,DI,DJ,r3.append (.cons r8 .nil),w8⟩
    .exact (bq y c e).1 z
    .have c6:p∈X.pn++pins:=by have:p∈(X.pn++pins)++[]:=hp;simpa using this
     exact (qy p c6).2.1
    .have:=jC b bS;exact (YM _ _ (by walk_at "o")).trans e
   .rw[if_neg ay] at q7 ⊢;obtain⟨m',xD,w7⟩:=DG _ _ q7;obtain⟨J7,Nl,Nm,Nn,Np⟩:=after s7 H7 I7;exact⟨m',xD,i+1,zs,H7,uo,ao,nn,DH,J7,Nl,Nm,Nn,Np,r3,w7⟩
 exact codeAny_compStart_list (loop _ rfl) (T.self X.A 0 _ _ _ DD (loop _ rfl))
theorem DK{J:It}{fp:List YC}{it:YC}{tn:Nat->aaW->Prop}{E:Yy->YB->Prop}{Q:VK}{RR:Yy->YC->aeJ->YB->Prop}
 (S:kr X own scope cl fr ys) (hc:X.calm=true) (hg:∀ (C:YC) (s:YB) (H:Hp) (ex:List YC) (pn:List (YC × Obj)),PG (dn X (own++ys) scope cl C s H ex pn) tg g)
 (hb:∀ (C:YC) (s:YB) (H:Hp) (ex:List YC) (pn:List (YC × Obj)),iI (dn X (own++ys) scope cl C s H ex pn) ifs tt/\PE (dn X (own++ys) scope cl C s H ex pn) elt te)
 (I2:Inv X pins σ H2 s2) (T:Turn X.prog X.w X.K tg J fp it tn) (dU:tn 0 s2.heap) (f2:∀ b∈fp,cS X pins H2 b)
 (h:jz own.length J g (fr.map λj=>(σ[j]?).join) tt te H2 Q)
 (qw:∀ D C s' H',Inv X pins σ H' s'->(∃ m,s'.heap.Ns C m)->cS X pins H' C->Q (.ref D) H'->RR (.ref D) C (.ok .next) s') :
 YL (model X.prog X.w) X.A (agh []) (λacc s3=>YL (model X.prog X.w) X.A (acW scope X.env.globals cl [] X.env.qual none .none (some X.env)) (λqz s4 =>
  abb (model X.prog X.w) X.A (.compStart (.ListComp elt [⟨tg,iter,ifs,0⟩] scope pos) 0 (.ref it) acc { qz with scope:=relabel scope X.env }) (RR acc qz.locals) s4) E s3) E s2:=by
 refine Zu (wpAny_newFunctionEnv (λy hy=>by simpa using Z7.mp S.nocell y hy) (λy hy=>absurd hy (by simp)) (λh1 fw jD=>?_) S.kind);dsimp only at fw jD ⊢;generalize eP:s2.heap.push { cls:=.type "list",dict:=none,data:=.seq ([]:List Yy).toArray }=P2 at fw jD ⊢;have sz:P2.objs.size=s2.heap.objs.size+1:=by rw[<- eP,aab]
 have jA:s2.heap.objs.size≠P2.objs.size:=by walk_at "o"
 have keep:∀ b o,s2.heap.get? b=some o->h1.get? b=some o:=λb o e=>by have lt:=Yv e;exact jD.extBut b o (by walk_at "o") (Yt _ (eP ▸ Yt _ e))
 have hD:h1.get? s2.heap.objs.size=some { cls:=.type "list",data:=.seq ([]:List Yy).toArray 0 } :=
  jD.extBut _ _ jA (Yt _ (eP ▸ YA _ rfl))
 generalize eC:P2.objs.size=C at fw jD jA ⊢;generalize eD:s2.heap.objs.size=D at jA hD;have jB:s2.heap.objs.size<=C:=by walk_at "o"
 have mG:s2.heap.objs.size<=D:=by walk_at "o"
 have jC:∀ b∈fp,b<s2.heap.objs.size:=λb hb=>by obtain⟨o,e,_⟩:=T.obj 0 _ dU b hb;exact Yv e
 have xF:(dn X (own++ys) scope cl C s2 H2 fp (X.pn++pins)).Ok:=Nd S I2 f2 jB (λb hb=>by have:=jC b hb;walk_at "o");have qy:=xA I2 f2 jB mG;have I4:Inv (dn X (own++ys) scope cl C s2 H2 fp (X.pn++pins)) [] ((own.map λ_=>none)++fr.map λj=>(σ[j]?).join) H2 { s2 with heap:=h1,toks:=s2.toks+([]:List (Str × Yy)).length }:=by
  refine⟨xF,rfl,I2.bare,Un.kept keep,⟨_,fw,λi y v e1 e2 e3=>?_⟩,λy c e=>?_,I2.ay.fresh jB,λy c e=>I2.eB y c (S.cls.get y c e),λp hp=>?_,I2.ay.kept keep,?_⟩
  .by_cases hio:i<own.length
   .rw[Zl (by simpa using hio)] at e2;simp[hio] at e2
   .rw[Zz (by simp;lia)] at e2;have lp:ys[i-own.length]?=some y:=by
     have:(own++ys)[i]?=some y:=e1
     rwa [Zz (by lia)] at this
    rw[Yq] at e2;obtain⟨j,c,hN,hσ,hk,xG,n6⟩:=S.aU.get (i-own.length) y v lp e2;obtain⟨m,hm,hl⟩:=I2.loc;obtain⟨u,ru,lu⟩:=hl j y v hN hσ (.inr (.inl hk));refine⟨u,ru,.inr ⟨.inl ?_,c,xG,?_⟩⟩
    .have z:=Z7.mp S.kfr y (YF lp);exact (by simpa using z:(relabel scope X.env).names.lookup y=some .cell)
    .rcases lu with ⟨z,_⟩|⟨_,c',e',q'⟩
     .rw[hk] at z;cases z
     .rw[n6] at e';cases e';obtain⟨o,ho,hd⟩:=q';exact⟨o,keep _ _ ho,hd⟩
  .obtain⟨v,o,ho,hd⟩:=I2.cell y c (S.cls.get y c e);exact⟨v,o,keep _ _ ho,hd⟩
  .have c6:p∈X.pn++pins:=by have:p∈(X.pn++pins)++[]:=hp;simpa using this
   obtain⟨e,n,_,_,d⟩:=I2.pin p c6;obtain⟨p1,_,p3,_⟩:=qy p c6;exact⟨keep _ _ e,n,p1,p3,d⟩
  .show ((own.map λ_=>(none:Option V))++fr.map λj=>(σ[j]?).join).length=(own++ys).length;simp[S.aU.len]
 refine DC hc (hg C s2 H2 fp (X.pn++pins)) (hb C s2 H2 fp (X.pn++pins)) I2 T dU f2 h qw (by simp) I4 keep hD eD (sz.symm.trans eC) λy c e=>?_;obtain⟨v,o,ho,_⟩:=I2.cell y c (S.cls.get y c e);have:=Yv ho;exact⟨by walk_at "o",λb hb z=>(f2 b hb).2.2.2.2.1 y c (S.cls.get y c e) z⟩
theorem DL{wi:TI}{B:L2.St->It->Hp->VK->Prop}(S:kr X own scope cl fr ys)(hc:X.calm=true)(hi:PI X tg iter wi)(hg:∀ (C:YC) (s:YB) (H:Hp) (ex:List YC) (pn:List (YC × Obj)),PG (dn X (own++ys) scope cl C s H ex pn) tg g)
 (hb:∀ (C:YC) (s:YB) (H:Hp) (ex:List YC) (pn:List (YC × Obj)),iI (dn X (own++ys) scope cl C s H ex pn) ifs tt/\PE (dn X (own++ys) scope cl C s H ex pn) elt te)
 (hB:∀ ρ J H Q,B ρ J H Q->jz own.length J g ρ tt te H Q) (hs:∀ z,aar iter X.env z=pure z:=by intro _;rfl):PE X (.ListComp elt [⟨tg,iter,ifs,0⟩] scope pos) (λσ H Q=>wi σ H λJ H1=>B (fr.map λj=>(σ[j]?).join) J H1 Q):=by
 intro pins s σ H Q I h;rw[eval_ListComp];refine abI (use:=none) rfl hs S.clos S.kind (λy hy hl=>?_) (aB (hi pins s σ H _ I h) λxv s1 h1=>aB h1 λpZ s2 h2=>?_)
 .have z:=Z7.mp S.names y hy;rw[hl] at z;simpa using z
 .obtain⟨it,fp,tn,J,H2,rfl,I2,T,dU,f2,kx⟩:=h2;refine DK (RR:=λacc C=>compPost (model X.prog X.w) X.A X.xe none (EP X pins σ Q) acc C) S hc hg hb I2 T dU f2 (hB _ _ _ _ kx) λD C s' H' J' hn fC q=>?_;obtain⟨m,hm⟩:=hn;obtain⟨c0,c1,c2,c3,c4,c5⟩:=fC;exact⟨m,hm,λh' sb=>⟨.ref D,H',J'.turned (it:=C) (λb o hb e=>sb.extBut b o hb e) c0 c1 c3 c4 c5,rfl,q⟩⟩
theorem Nq{wi:TI}{B:L2.St->It->Hp->VK->Prop}{y:Str}{py uq:Pos}{i:Nat}(S:kr X own scope cl fr ys)(hc:X.calm=true)(hN:X.N.Nodup)(hy:X.N[i]?=some y)(hl:X.env.scope.names.lookup y=some .local)(hi:PI X tg iter wi)(hg:∀ (C:YC) (s:YB) (H:Hp) (ex:List YC) (pn:List (YC × Obj)),PG (dn X (own++ys) scope cl C s H ex pn) tg g)
 (hb:∀ (C:YC) (s:YB) (H:Hp) (ex:List YC) (pn:List (YC × Obj)),iI (dn X (own++ys) scope cl C s H ex pn) ifs tt/\PE (dn X (own++ys) scope cl C s H ex pn) elt te)
 (hB:∀ ρ J H Q,B ρ J H Q->jz own.length J g ρ tt te H Q) (xH:acr (.ListComp elt [⟨tg,iter,ifs,0⟩] scope pos) (some (.Name y py)) uq.line X.env=pure true:=by rfl)
 (hs:∀ z,aar iter X.env z=pure z:=by intro _;rfl):PS X (.Assign [.Name y py] (.ListComp elt [⟨tg,iter,ifs,0⟩] scope pos) uq) (xu i λσ H Q=>wi σ H λJ H1=>B (fr.map λj=>(σ[j]?).join) J H1 Q):=by
 intro pins s σ H Dn I h;rw[exec_Assign_Name_used _ _ _ _ xH];refine Yo (aeF (Yo ?_));show YL _ X.A (do let _ <- comprehension (.ListComp elt [⟨tg,iter,ifs,0⟩] scope pos) scope X.env _ (agh []) false (eval iter X.env) (some (assign (.Name y py) X.env))) _ _ s;refine Yo (aB (abI (use:=some (assign (.Name y py) X.env)) (Q:=λ_ s'=>SP X pins Dn .next s') rfl hs S.clos S.kind (λz hz hl=>?_) (aB (hi pins s σ H _ I h) λxv s1 h1=>aB h1 λpZ s2 h2=>?_)) λ_ s' hq=>Yu (Yu hq))
 .have z':=Z7.mp S.names z hz;rw[hl] at z';simpa using z'
 .obtain⟨it,fp,tn,J,H2,rfl,I2,T,dU,f2,kx⟩:=h2;refine DK (RR:=λacc C=>compPost (model X.prog X.w) X.A X.xe (some (assign (.Name y py) X.env)) (λ_ s'=>SP X pins Dn .next s') acc C) S hc hg hb I2 T dU f2 (hB _ _ _ _ kx) λD C s' H' J' hn fC q=>?_;obtain⟨m,oC,es,ep,ho,hd,hr⟩:=hn;obtain⟨c0,c1,c2,c3,c4,c5⟩:=fC;have J2:Inv X (pins++[(C,oC)]) σ H' s':=J'.pR λp hp=>by
   rcases Y3.mp hp with z|z
   .exact J'.pin p (YX _ z)
   .have:p=(C,oC):=by simpa using z
    subst this;exact⟨ho,c0,c1,c2,λv z=>by rw[hd] at z;cases z⟩
  show YL _ X.A (assign (.Name y py) X.env (.ref D)) _ _ _;refine aB (gi (X:=X) hN hy (.inl hl) (.inr hl) _ s' σ H' (.ref D) (.ref D) (λσ' gQ=>σ'=σ.set i (some (.ref D))/\gQ=H') J2 rfl ⟨rfl,rfl⟩) λ_ s3 zq=>?_;obtain⟨σ3,H3,J3,e1,e2⟩:=zq;subst e1 e2;obtain⟨pc,X4,_⟩:=J3.pin (C,oC) (YX _ (YX _ (Zc.mpr rfl)));refine⟨m,⟨oC,es,ep,pc,hd,hr⟩,λh' sb=>⟨_,H3,J3.tX.turned (it:=C) (λb o hb e=>sb.extBut b o hb e) c0 c1 c3 c4 c5,q⟩⟩
theorem xI(S:kr X own scope cl fr ys)(hc:X.calm=true)(hi:PI X tg iter wi)(hg:∀ (C:YC) (s:YB) (H:Hp) (ex:List YC) (pn:List (YC × Obj)),PG (dn X (own++ys) scope cl C s H ex pn) tg g)(hb:∀ (C:YC) (s:YB) (H:Hp) (ex:List YC) (pn:List (YC × Obj)),iI (dn X (own++ys) scope cl C s H ex pn) ifs tt/\PE (dn X (own++ys) scope cl C s H ex pn) elt te)(hs:∀ z,aar iter X.env z=pure z:=by intro _;rfl):PE X (.ListComp elt [⟨tg,iter,ifs,0⟩] scope pos) (DA own.length wi g fr tt te):=DL (B:=λρ J H Q=>jz own.length J g ρ tt te H Q) S hc hi hg hb (λ_ _ _ _ h=>h) hs
end
theorem xJ(h:ko J ρ tt te H Q):jz 1 J (cj 0) ρ tt te H Q:=by
 obtain⟨W,w0,turn⟩:=h;refine⟨W,w0,λi m ys H hw=>(turn i m ys H hw).imp id λ⟨a,b,N,hN,st⟩=>⟨a,b,N,hN,λos ho x H' y=>?_⟩⟩
 match os,ho with
 | [_],_=>exact⟨[some x],rfl,rfl,st x H' y⟩
section
theorem bP.g(S:bP X x scope cl fr ys):kr X [x] scope cl fr ys:=⟨S.clos,S.nocell,S.kind,S.names,S.kinds,S.cls,S.aU,S.kfr⟩
theorem bP.pg(S:bP X x scope cl fr ys)(C:YC)(s:YB)(H:Hp)(ex:List YC)(pn:List (YC × Obj)):PG (dn X ([x]++ys) scope cl C s H ex pn) (.Name x px) (cj 0) :=
 gi (X:=dn X (x::ys) scope cl C s H ex pn) (i:=0) S.nd rfl (.inl (Y1 S.own)) (.inr (Y1 S.own))
theorem c7(S:bP X x scope cl fr ys)(hc:X.calm=true)(hi:PI X (.Name x px) iter wi)(hb:∀ (C:YC) (s:YB) (H:Hp) (ex:List YC) (pn:List (YC × Obj)),iI (dn X (x::ys) scope cl C s H ex pn) ifs tt/\PE (dn X (x::ys) scope cl C s H ex pn) elt te)(hs:∀ z,aar iter X.env z=pure z:=by intro _;rfl):PE X (.ListComp elt [⟨.Name x px,iter,ifs,0⟩] scope pos) (uk wi fr tt te):=DL (B:=λρ J H Q=>ko J ρ tt te H Q) S.g hc hi S.pg hb (λ_ _ _ _ h=>xJ h) hs
theorem qA(S:bP X x scope cl fr ys)(hc:X.calm=true)(hN:X.N.Nodup)(hy:X.N[i]?=some y)(hl:X.env.scope.names.lookup y=some .local)(hi:PI X (.Name x px) iter wi)(hb:∀ (C:YC) (s:YB) (H:Hp) (ex:List YC) (pn:List (YC × Obj)),iI (dn X (x::ys) scope cl C s H ex pn) ifs tt/\PE (dn X (x::ys) scope cl C s H ex pn) elt te)(xH:acr (.ListComp elt [⟨.Name x px,iter,ifs,0⟩] scope pos) (some (.Name y py)) uq.line X.env=pure true:=by rfl)(hs:∀ z,aar iter X.env z=pure z:=by intro _;rfl):PS X (.Assign [.Name y py] (.ListComp elt [⟨.Name x px,iter,ifs,0⟩] scope pos) uq) (xu i (uk wi fr tt te)):=Nq (B:=λρ J H Q=>ko J ρ tt te H Q) S.g hc hN hy hl hi S.pg hb (λ_ _ _ _ h=>xJ h) xH hs
end
def dZ(Ok:Hp->Prop)(ρ:L2.St)(tt:TT)(te:TE):List V->List V->Hp->(List V->Hp->Prop)->Prop
 | [],ys,H,Q=>Ok H/\Q ys H
 | x::r,ys,H,Q=>Ok H/\tt (some x::ρ) H λb H1=>if b=true then te (some x::ρ) H1 λy H2=>dZ Ok ρ tt te r (ys++[y]) H2 Q else dZ Ok ρ tt te r ys H1 Q
structure qB(J:It)(Ok:Hp->Prop)(xs:List V):Prop where
 go:∀ i H x,Ok H->xs[i]?=some x->J.go i H
 yld:∀ i H x H',Ok H->J.yld i H x H'->H'=H/\(i<xs.length->xs[i]?=some x)
 stop:∀ i H,Ok H->xs.length<=i->J.stop i H
section
variable{J:It}{Ok:Hp->Prop}{xs:List V}{ρ:L2.St}{tt:TT}{te:TE}{H:Hp}{Q:VK}{K:Yp}{a:YC}
theorem cF(O:qB J Ok xs)(hn:xs.length<=YR)(h:dZ Ok ρ tt te xs [] H λys H'=>∀ l,H' l=none->Q (.ref l) (upd H' l (.lst ys))):ko J ρ tt te H Q:=by
 refine⟨λi m ys H=>m=xs.length-i/\i<=xs.length/\ys.length<=i/\dZ Ok ρ tt te (xs.drop i) ys H λys H'=>∀ l,H' l=none->Q (.ref l) (upd H' l (.lst ys)),⟨_,rfl,YS _,Yz _,h⟩,?_⟩;rintro i m ys H ⟨rfl,hi,hy,g⟩;by_cases aT:i<xs.length
 .have e:=Zs aT;rw[e] at g;obtain⟨g0,g1⟩:=g;refine .inr ⟨O.go i H _ g0 (Ys aT),by walk_at "o",λzs H'=>zs.length<=i+1/\dZ Ok ρ tt te (xs.drop (i+1)) zs H' λys H'=>∀ l,H' l=none->Q (.ref l) (upd H' l (.lst ys)),λzs H' q=>⟨_,by walk_at "o",rfl,aT,q.1,q.2⟩,λx H' y=>?_⟩;obtain⟨rfl,ex⟩:=O.yld i H x H' g0 y;have ex:=ex aT;rw[Ys aT] at ex;cases ex;have l1:∀ y:V,(ys++[y]).length<=i+1:=λy=>by rw[YO,YY];walk_at "o"
  have l2:ys.length<=i+1:=by walk_at "o"
  simp only[l1,l2,true_and];exact g1
 .have e:i=xs.length:=by walk_at "o"
  subst e;rw[adD] at g;exact .inl ⟨O.stop _ H g.1 (Yz _),by walk_at "o",g.2⟩
theorem iK:qB (jk K a) (λH=>ai K H a xs) xs :=
 ⟨λ_ _ _ h e=>⟨xs,_,h,e⟩,λ_ _ _ _ h y=>⟨y.1,λ_=>y.2 xs h⟩,λ_ _ h hi=>⟨xs,h,hi⟩⟩
theorem DM:qB (p8 K a) (λH=>ah K H a xs) xs :=
 ⟨λ_ _ _ h e=>⟨xs,_,h,e⟩,λ_ _ _ _ h y=>⟨y.1,λ_=>y.2 xs h⟩,λ_ _ h hi=>⟨xs,h,hi⟩⟩
theorem iL{lo:Int}{n:Nat}:qB (gK lo n) (λ_=>True) ((YZ n).map λk=>V.int (lo+(k:Nat))) :=
 ⟨λi _ _ _ e=>by
  have:=(Yx.mp e).1;show i<n;simpa using this,λi _ _ _ _ y=>⟨y.1,λhi=>by
   have cv:i<n:=by simpa using hi
   rw[y.2,YG,ZT cv];rfl⟩,λi _ _ hi=>by
   show n<=i;simpa using hi⟩
theorem ur(bE:Ok H):∀ {xs ys:List V},(∀ x∈xs,∀ Q,Q (p x) H->tt (some x::ρ) H Q)->(∀ x∈xs,p x=true->∀ Q,Q (f x) H->te (some x::ρ) H Q)->Q' (ys++(xs.filter p).map f) H->dZ Ok ρ tt te xs ys H Q'
 | [],ys,_,_,q=>⟨bE,by simpa using q⟩
 | x::r,ys,ht,he,q=>by
  refine⟨bE,ht x (.head _) _ ?_⟩;by_cases hb:p x=true
  .rw[if_pos hb];refine he x (.head _) hb _ (ur bE (λy hy=>ht y (.tail _ hy)) (λy hy=>he y (.tail _ hy)) ?_);rw[Za,if_pos hb] at q;simpa using q
  .rw[if_neg hb];refine ur bE (λy hy=>ht y (.tail _ hy)) (λy hy=>he y (.tail _ hy)) ?_;rw[Za,if_neg hb] at q;exact q
end
section
variable{X:Cx}{K:Yp}
theorem Nr(h:X.K=K):jt X (kf K):=h ▸ bc
theorem Nt(h:X.K=K):aX X (Zw .NotIn) (xg K true):=h ▸ LJ
end
theorem Nu{prog:Zo}{w:ZZ}{A:aac}{E:Yy->YB->Prop}{s:YB}{id:String}{b:aak}{args:List Yy}{kw:List (Str × Yy)}{Q:Yy->YB->Prop}(hk:aes id=none)(hp:afL id=true)
 (hb:acO table id=some b) (ha:adE id ⟨args,kw⟩)
 (hc:YL (model prog w) A.in1 (b ⟨args,kw⟩) (λfin s'=>match fin with
   | .done f=>(match (Except.ok f:aeJ) with|.ok (.ret v)=>Q v s'|.ok _=>False|.error e=>E e s')
   | .again c'=>c'.quiet=true/\abb (model prog w) A c' (λr s'=>match r with|.ok (.ret v)=>Q v s'|.ok _=>False|.error e=>E e s') s') E s) :
 YL (model prog w) A (call (.builtin id) args kw) Q E s:=by
 refine ae7 (abl hp hb ?_);simp only[acj,hk];cases hsig:Manifest.signature? id with
 | none=>exact Yu hc
 | some sig =>
  have qr:Bind.checkArgs id sig ⟨args,kw⟩=pure ():=by simpa only [adE,hsig] using ha
  simp only[qr];exact Yu hc
noncomputable def xK:{ F:String->CmpOp->aak // F "max" .Gt=aak.«max.loop»/\F "min" .Lt=aak.«min.loop» }:=⟨_,rfl,rfl⟩
noncomputable def DN:{ F:String->aak // F "max" = aak.«max»/\F "min" = aak.«min» }:=⟨_,rfl,rfl⟩
theorem DO{nx id:String}{op:CmpOp}(nm:(toString nx++toString ".loop" : String)=id)(e1:acO table id=some (xK.1 nx op))(e2:afL id=true){prog:Zo}{w:ZZ}{A:aac}{R:aeJ->YB->Prop}{I S:YC}{fp wr:List YC}{n:Nat}{P:Nat->Yy->Prop}{St:Nat->aaW->Prop}{G:aaW->Prop}{bt:Nat->Nat->Bool}{kw:List (Str × Yy)}
 (W:Walks prog w A.in1 I fp wr n P St) (hG:∀ h h',G h->(∀ b o,b∉wr->b≠S->h.get? b=some o->h'.get? b=some o)->G h')
 (qC:∀ i j vi vj (s:YB) (Q:Yy->YB->Prop) (E:Yy->YB->Prop),P i vi->P j vj->G s.heap->Q (.bool (bt i j)) s->YL (model prog w) A.in1 (adv op vi vj) Q E s) (hS:S∉fp):∀ (k j:Nat) (s:YB) (vb:Yy) (c:Nat),k+(j+1)=n->St (j+1) s.heap->G s.heap->P (acz bt j) vb ->
  s.heap.get? S=some { cls:=.type "list",dict:=none,data:=.seq #[vb,vb] c,slots:=#[] } ->
  (∀ v h' tk,P (acz bt (n-1)) v->(∀ b o,b∉wr->b≠S->s.heap.get? b=some o->h'.get? b=some o)->R (.ok (.ret v)) { s with heap:=h',toks:=tk }) ->
  abb (model prog w) A (.builtin id ⟨[.ref I,.none,.ref S],kw⟩) R s:=by
 have nS:S∉wr:=λz=>hS (W.sub _ z);intro k
 induction k with
 | zero =>
  intro j s vb c e st g pb oS fin;have e':j+1=n:=by walk_at "o"
  refine Zt e1 ?_;rw[Zi e2 _];show YL _ A.in1 (aeO (.ref S) >>= _) _ _ s;refine Yo (abm oS rfl ?_);show YL _ A.in1 (tryCatch (aa9 (.ref I)) _ >>= _) _ _ s;refine Yo (abn (W.done s _ _ (e' ▸ st) λh1 tk kp=>?_));have iM:=kp S _ nS oS;show YL _ A.in1 (ade S (λ_=>#[]) >>= _) _ _ _;refine Yo ?_;refine aaw iM rfl (Yo (abD (Yu ?_)));exact fin vb _ tk (by rw[<- e'];exact pb) λb o hw hb q=>(YM _ _ (Zj hb)).trans (kp b o hw q)
 | succ k ih =>
  intro j s vb c e st g pb oS fin;have lt:j+1<n:=by walk_at "o"
  refine Zt e1 ?_;rw[Zi e2 _];show YL _ A.in1 (aeO (.ref S) >>= _) _ _ s;refine Yo (abm oS rfl ?_);show YL _ A.in1 (tryCatch (aa9 (.ref I)) _ >>= _) _ _ s;refine Yo (abn (W.item (j+1) s _ _ lt st λv h1 tk pv n9 kp=>?_));have iM:=kp S _ nS oS;have g1:G h1:=hG _ _ g λb o hw _ q=>kp b o hw q;show YL _ A.in1 (tryCatch (holding [v,v] (adv op v vb >>= _)) _ >>= _) _ _ _;refine Yo (abn (ZL (Yo (qC (j+1) (acz bt j) v vb _ _ _ pv pb g1 ?_))));refine Yo (ZL (Zg ?_));refine Yo (abD (Yu ?_));cases hb:bt (j+1) (acz bt j) with
  | true =>
   simp only[if_true];refine Yo ?_;refine aaw iM rfl (Yo (abD ?_));rw[nm];refine Yu ⟨aam e2 _,ih (j+1) _ v _ (by walk_at "o") (W.frame _ _ _ n9 λb hf o q=>?_) (hG _ _ g1 λb o _ lq q=>(YM _ _ (Zj lq)).trans q) (by simp only[acz,hb,if_true];exact pv) (Ze _ iM rfl) λv2 h2 uu p2 k2=>?_⟩
   .exact (YM _ _ (λz:S=b=>hS (by rw[z];exact hf))).trans q
   .exact fin v2 h2 uu p2 λb o hw lq q=>k2 b o hw lq ((YM _ _ (Zj lq)).trans (kp b o hw q))
  | false =>
   simp only[YT,if_false];refine Yo (abD ?_);rw[nm];refine Yu ⟨aam e2 _,ih (j+1) _ vb c (by walk_at "o") n9 g1 (by simp only[acz,hb,YT,if_false];exact pb) iM λv2 h2 uu p2 k2=>?_⟩;exact fin v2 h2 uu p2 λb o hw lq q=>k2 b o hw lq (kp b o hw q)
theorem Nv{nx id:String}{op:CmpOp}(nm:(toString nx++toString ".loop" : String)=id)(e1:acO table id=some (xK.1 nx op))(e2:afL id=true)(k0:aes nx=none)(k1:afL nx=true)(k2:acO table nx=some (DN.1 nx))(k3:∀ a d:Yy,adE nx ⟨[a],[("default",d)]⟩){prog:Zo}{w:ZZ}{A:aac}{E:Yy->YB->Prop}{s:YB}{l:YC}{xs:Array (Int × Tok)}{d:Yy}{Q:Yy->YB->Prop}{bt:Nat->Nat->Bool}(e4:CmpOf prog w A.in1 op (λi v=>(aan xs)[i]?=some v) bt)(hh:A.handled=none)(hl:s.heap.IsList l (aan xs))
 (h0:xs.size=0->∀ h' tk,(∀ b o,s.heap.get? b=some o->h'.get? b=some o)->Q d { s with heap:=h',toks:=tk })
 (h1:0<xs.size->∀ v h' tk,(aan xs)[acz bt (xs.size-1)]?=some v->(∀ b o,s.heap.get? b=some o->h'.get? b=some o)->Q v { s with heap:=h',toks:=tk }) :
 YL (model prog w) A (call (.builtin nx) [.ref l] [("default",d)]) Q E s:=by
 refine Nu k0 k1 k2 (k3 _ _) ?_;show YL _ A.in1 (aax _ ["key","default"] 0 ⟨[],[("default",d)]⟩ >>= _) _ _ s;refine Yo (adw (show aax _ ["key","default"] 0 ⟨[],[("default",d)]⟩=pure [none,some d] from rfl) ?_);refine Yo (Yu ?_);refine Yo (iter_intList hl λs2 e2 st jC Nw=>?_);subst e2;refine Yo (Zu ?_);have W:=Walks.list (prog:=prog) (w:=w) (A:=A.in1) hh s.heap.objs.size l Nw (aan xs);generalize eP:(s.heap.push { cls:=.type "list_iterator",data:=.fields #[.ref l,.int 0 0] })=P2 at st jC ⊢;have og:P2.objs.size∉[s.heap.objs.size,l]:=λz=>ZK _ (jC _ z);have up:∀ b o,s.heap.get? b=some o->b≠P2.objs.size/\b∉[s.heap.objs.size]/\(P2.push { cls:=.type "list",dict:=none,data:=.seq ([]:List Yy).toArray }).get? b=some o:=λb o q=>by
  have lt:=Yv q;have q2:P2.get? b=some o:=by rw[<- eP];exact Yt _ q
  refine⟨YH (Yv q2),λz=>?_,Yt _ q2⟩;have:b=s.heap.objs.size:=by simpa using z
  walk_at "o"
 rw[nm];refine Yu ⟨aam e2 _,?_⟩;have oS:(P2.push { cls:=.type "list",dict:=none,data:=.seq ([]:List Yy).toArray }).get? P2.objs.size=some { cls:=.type "list",dict:=none,data:=.seq #[] 0,slots:=#[] }:=YA _ rfl;have cz:=W.frame 0 P2 (P2.push { cls:=.type "list",dict:=none,data:=.seq ([]:List Yy).toArray }) st λb _ o q=>Yt _ q;have nS:P2.objs.size∉[s.heap.objs.size]:=λz=>og (by simp at z;simp[z]);by_cases hz:xs.size=0
 .have xM:(P2.push { cls:=.type "list",dict:=none,data:=.seq ([]:List Yy).toArray }).IsListIter s.heap.objs.size l (aan xs).size/\(P2.push { cls:=.type "list",dict:=none,data:=.seq ([]:List Yy).toArray }).IsList l (aan xs):=by
   have:(aan xs).size=0:=by simpa [aan] using hz
   rw[this];exact cz
  refine Zt e1 ?_;rw[Zi e2 _];show YL _ A.in1 (aeO (.ref P2.objs.size) >>= _) _ _ _;refine Yo (abm oS rfl ?_);show YL _ A.in1 (tryCatch (aa9 (.ref s.heap.objs.size)) _ >>= _) _ _ _;refine Yo (abn (W.done _ _ _ xM λh2 tk kp=>?_));refine Yo (abJ (Yu ?_));exact h0 hz h2 tk λb o q=>kp b o (up b o q).2.1 (up b o q).2.2
 .have hp:0<xs.size:=by walk_at "o"
  have hn:0<(aan xs).size:=by simpa [aan] using hp
  refine Zt e1 ?_;rw[Zi e2 _];show YL _ A.in1 (aeO (.ref P2.objs.size) >>= _) _ _ _;refine Yo (abm oS rfl ?_);show YL _ A.in1 (tryCatch (aa9 (.ref s.heap.objs.size)) _ >>= _) _ _ _;refine Yo (abn (W.item 0 _ _ _ hn cz λv h2 tk pv n9 kp=>?_));have iM:=kp _ _ nS oS;show YL _ A.in1 (ade P2.objs.size (λ_=>#[v,v]) >>= _) _ _ _;refine Yo ?_;refine aaw iM rfl ?_;rw[nm];refine Yu ⟨aam e2 _,DO nm e1 e2 (G:=λ_=>True) W (λ_ _ _ _=>trivial) (λi j vi vj s Q E h1 h2 _ q=>e4 i j vi vj s Q E h1 h2 q) og ((aan xs).size-1) 0 _ v _ (by walk_at "o") (W.frame _ _ _ n9 λb hf o q=>?_) trivial pv (Ze _ iM rfl) λv2 h3 xN p3 k3=>?_⟩
  .exact (YM _ _ (λz:P2.objs.size=b=>og (by rw[z];exact hf))).trans q
  .refine h1 hp v2 h3 xN (by simpa [aan] using p3) λb o q=>?_;exact k3 b o (up b o q).2.1 (up b o q).1 ((YM _ _ (Zj (up b o q).1)).trans (kp b o (up b o q).2.1 (up b o q).2.2))
noncomputable def lr:List Int->Int
 | []=>0
 | x::r=>r.foldl (λb y=>if y > b then y else b) x
noncomputable def oh:List Int->Int
 | []=>0
 | x::r=>r.foldl (λb y=>if y<b then y else b) x
theorem DP:∀ (r:List Int) (b:Int),b<=r.foldl (λb y=>if y > b then y else b) b/\(∀ y∈r,y<=r.foldl (λb y=>if y > b then y else b) b)/\(r.foldl (λb y=>if y > b then y else b) b=b∨r.foldl (λb y=>if y > b then y else b) b∈r)
 | [],b=>⟨Zv _,λ_ z=>(nomatch z),.inl rfl⟩
 | x::r,b=>by
  simp only[afM];obtain⟨h1,h2,h3⟩:=DP r (if x > b then x else b);refine⟨?_,λy hy=>?_,?_⟩
  .refine abK ?_ h1;split<;>lia
  .rcases YK.mp hy with rfl|hy
   .refine abK ?_ h1;split<;>lia
   .exact h2 y hy
  .rcases h3 with h3|h3
   .rw[h3];split
    .right;simp
    .left;rfl
   .right;exact Zh _ h3
theorem DQ:∀ (r:List Int) (b:Int),r.foldl (λb y=>if y<b then y else b) b<=b/\(∀ y∈r,r.foldl (λb y=>if y<b then y else b) b<=y)/\(r.foldl (λb y=>if y<b then y else b) b=b∨r.foldl (λb y=>if y<b then y else b) b∈r)
 | [],b=>⟨Zv _,λ_ z=>(nomatch z),.inl rfl⟩
 | x::r,b=>by
  simp only[afM];obtain⟨h1,h2,h3⟩:=DQ r (if x<b then x else b);refine⟨?_,λy hy=>?_,?_⟩
  .refine abK h1 ?_;split<;>lia
  .rcases YK.mp hy with rfl|hy
   .refine abK h1 ?_;split<;>lia
   .exact h2 y hy
  .rcases h3 with h3|h3
   .rw[h3];split
    .right;simp
    .left;rfl
   .right;exact Zh _ h3
theorem DR(h:ns≠[]):lr ns∈ns/\∀ y∈ns,y<=lr ns:=by
 cases ns with
 | nil=>exact absurd rfl h
 | cons x r =>
  obtain⟨h1,h2,h3⟩:=DP r x;refine⟨?_,λy hy=>?_⟩
  .rcases h3 with h3|h3
   .show r.foldl _ x∈_;rw[h3];exact .head _
   .exact .tail _ h3
  .rcases YK.mp hy with rfl|hy
   .exact h1
   .exact h2 y hy
theorem Nx(h:ns≠[]):oh ns∈ns/\∀ y∈ns,oh ns<=y:=by
 cases ns with
 | nil=>exact absurd rfl h
 | cons x r =>
  obtain⟨h1,h2,h3⟩:=DQ r x;refine⟨?_,λy hy=>?_⟩
  .rcases h3 with h3|h3
   .show r.foldl _ x∈_;rw[h3];exact .head _
   .exact .tail _ h3
  .rcases YK.mp hy with rfl|hy
   .exact h1
   .exact h2 y hy
theorem uv:∀ {ns:List Int} {ao:List Yy},Vals (ns.map V.int) ao->∃ xs:Array (Int × Tok),ao.toArray=aan xs/\xs.toList.map (·.1)=ns
 | [],_,.nil=>⟨#[],by simp[aan],rfl⟩
 | n::ns,_,.cons (l₂:=ao) r t=>by
  obtain⟨xs,e1,e2⟩:=uv (ns:=ns) t;obtain⟨tk,rfl⟩:=r;refine⟨((n,tk)::xs.toList).toArray,?_,?_⟩
  .have:ao=xs.toList.map (λp=>aaO p.1 p.2):=by have:=congrArg afk e1;simpa [aan] using this
   simp[aan,this]
  .simp[e2]
theorem DS(e:xs.toList.map (·.1)=ns)(hi:i<xs.size):aet xs i∈ns/\aet xs i=ns.getD i 0:=by subst e;unfold aet;rw[Zb hi];refine⟨YI.mpr ⟨xs[i],by simp,rfl⟩,?_⟩;simp[hi]
theorem DT(e:xs.toList.map (·.1)=ns)(hy:y∈ns):∃ i,i<xs.size/\aet xs i=y:=by
 subst e;obtain⟨p,hp,rfl⟩:=YI.mp hy;obtain⟨i,hi,e⟩:=List.mem_iff_getElem.mp hp;refine⟨i,by simpa using hi,?_⟩;unfold aet;have cv:i<xs.size:=by simpa using hi
 rw[Zb cv];have:xs[i]=p:=by simpa using e
 rw[this];rfl
theorem DU(e:xs.toList.map (·.1)=ns)(h:0<xs.size):aet xs (acz (λi j=>decide (aet xs i > aet xs j)) (xs.size-1))=lr ns:=by
 obtain⟨h1,h2⟩:=argBest_gt (aet xs) (xs.size-1);have bF:ns≠[]:=by intro z;subst z;have q:=congrArg List.length e;rw[Yq,aaY,aaR] at q;lia
 obtain⟨m1,m2⟩:=DR bF;refine afN (m2 _ (DS e (by lia)).1) ?_;obtain⟨i,hi,ei⟩:=DT e m1;rw[<- ei];exact h2 i (by lia)
theorem Ny(e:xs.toList.map (·.1)=ns)(h:0<xs.size):aet xs (acz (λi j=>decide (aet xs i<aet xs j)) (xs.size-1))=oh ns:=by
 obtain⟨h1,h2⟩:=argBest_lt (aet xs) (xs.size-1);have bF:ns≠[]:=by intro z;subst z;have q:=congrArg List.length e;rw[Yq,aaY,aaR] at q;lia
 obtain⟨m1,m2⟩:=Nx bF;refine afN ?_ (m2 _ (DS e (by lia)).1);obtain⟨i,hi,ei⟩:=DT e m1;rw[<- ei];exact h2 i (by lia)
def DV(R:V->Hp->Prop):List V->Hp->Prop
 | [x],H=>R x H
 | _,_=>False
theorem Nz:∀ {vs:List V} {H:Hp},DV R vs H->∃ x,vs=[x]/\R x H
 | [x],_,h=>⟨x,rfl,h⟩
section
noncomputable def mH(f:List Int->Int):List Int->V->V
 | [],y=>y
 | n::ns,_=>.int (f (n::ns))
theorem NA(h:ns≠[]):mH f ns y = .int (f ns):=by
 cases ns with
 | nil=>exact absurd rfl h
 | cons _ _=>rfl
def uw(K:Yp)(f:List Int->Int)(te td:TE):TE:=λσ H Q=>te σ H λx H1=>td σ H1 λy H2=>∃ a ns,x = .ref a/\ai K H2 a (ns.map V.int)/\Q (mH f ns y) H2
theorem DW{X:Cx}{e d:acg}{te td:TE}{p pos kp:Pos}{nx:String}{f:List Int->Int}{op:CmpOp}{id:String}(nm:(toString nx++toString ".loop" : String)=id)(e1:acO table id=some (xK.1 nx op))(e2:afL id=true)(k0:aes nx=none)(k1:afL nx=true)(k2:acO table nx=some (DN.1 nx))(k3:∀ a d:Yy,adE nx ⟨[a],[("default",d)]⟩)(kb:Zf nx=some (.builtin nx))(kn:ZQ nx≠ZQ "__name__")(kd:(ZQ nx == ZQ "__debug__")=false)
 (kc:∀ (A:aac) (xs:Array (Int × Tok)),∃ bt,CmpOf X.prog X.w A op (λi v=>(aan xs)[i]?=some v) bt/\∀ ns:List Int,xs.toList.map (·.1)=ns->0<xs.size->aet xs (acz bt (xs.size-1))=f ns) (hc:X.calm=true) (hg:Gl X nx) (hm:X.mg nx=none) (he:PE X e te) (hd:PE X d td)
 (hs:YQ [e] X.env=(false,eval e X.env)::YQ [] X.env:=by rfl) (hq:aap pos (YQ [e] X.env)=(false,eval e X.env)::aap pos (YQ [] X.env):=by rfl) :
 PE X (.Call (.Name nx p) [e] [⟨some "default",d,kp⟩] pos) (uw X.K f te td):=by
 intro pins s σ H Q I h;refine ZP (eX I hg hm kb ?_ kn (hd:=kd));refine callWith_kw (aB ((ae he ag hs) pos pins s σ H (DV λx H1=>td σ H1 λy H2=>∃ (a:YC) (ns:List Int),x = .ref a/\ai X.K H2 a (ns.map V.int)/\Q (mH f ns y) H2) I h) λus s1 ⟨vs,H1,I1,r,q⟩=>?_) hq (by rw[hs];rfl)
 .obtain⟨x,rfl,q⟩:=Nz q;obtain⟨u,rfl,ru⟩:=vals1 r;refine kws_cons (aB (hd pins s1 σ H1 _ I1 q) λw s2 ⟨y,H2,I2,ry,a,ns,ex,hS,q1⟩=>kws_nil ?_);subst ex;cases ru;obtain⟨ao,rv,hp,_⟩:=I2.list hS;obtain⟨xs,lp,DX⟩:=uv rv;obtain⟨o,n,ho,bq,_,hdt⟩:=hp;have hl:s2.heap.IsList a (aan xs):=⟨o,ho,bq,n,by rw[hdt,lp]⟩
  have len:xs.size=ns.length:=by rw[<- DX,Yq];simp
  show YL _ X.A (call (.builtin nx) [.ref a] [("default",w)]) _ _ s2;obtain⟨bt,NB,NC⟩:=kc X.A.in1 xs;refine Nv nm e1 e2 k0 k1 k2 k3 NB (I2.ok.hd hc) hl (λhz h' tk hk=>⟨y,H2,I2.kept hk,ry,?_⟩) λhp v h' tk hv hk=>⟨.int (f ns),H2,I2.kept hk,?_,?_⟩
  .have z:ns=[]:=aao.mp (by walk_at "o");rw[z] at q1;exact q1
  .obtain⟨t,rfl⟩:=aeu hv;exact⟨t,by rw[NC _ DX hp]⟩
  .rw[NA (λz=>by subst z;rw[aaR] at len;lia)] at q1;exact q1
theorem ND(a d:Yy):adE "max" ⟨[a],[("default",d)]⟩:=by unfold adE;kernel_rfl
theorem NF{X:Cx}{e d:acg}{te td:TE}{p pos kp:Pos}(hc:X.calm=true)(hg:Gl X "max")(hm:X.mg "max" = none)(he:PE X e te)(hd:PE X d td)
 (hs:YQ [e] X.env=(false,eval e X.env)::YQ [] X.env:=by rfl) (hq:aap pos (YQ [e] X.env)=(false,eval e X.env)::aap pos (YQ [] X.env):=by rfl) :
 PE X (.Call (.Name "max" p) [e] [⟨some "default",d,kp⟩] pos) (uw X.K lr te td) :=
 DW (by decide) PySem.F.entry_max_loop PySem.F.plain_max_loop PySem.F.kind_max PySem.F.plain_max PySem.F.entry_max ND xk (by decide) (by decide) (λ_ xs=>⟨_,CmpOf.ints_gt (aet xs) (λ_ _=>aeu),λ_ e h=>DU e h⟩) hc hg hm he hd hs hq
theorem NG(hc:X.calm=true):dW X (.builtin "max") (λxs H Q=>∃ a ns,xs=[.ref a]/\ai X.K H a (ns.map V.int)/\ns≠[]/\Q (.int (lr ns)) H):=by
 intro pins s σ H xs us Q I r h;obtain⟨a,ns,rfl,hS,bF,q⟩:=h;obtain⟨u,rfl,ru⟩:=vals1 r;cases ru;obtain⟨ao,rv,hp,_⟩:=I.list hS;obtain⟨xs,e1,e2⟩:=uv rv;obtain⟨o,n,ho,bq,_,hdt⟩:=hp;have hl:s.heap.IsList a (aan xs):=⟨o,ho,bq,n,by rw[hdt,e1]⟩
 have len:xs.size=ns.length:=by rw[<- e2,Yq];simp
 have qu:0<xs.size:=by rw[len];exact List.length_pos_iff.mpr bF
 refine max_intList (I.ok.hd hc) hl qu λv h' tk hv hk=>⟨.int (lr ns),H,I.kept hk,?_,q⟩
 obtain⟨t,rfl⟩:=aeu hv;exact⟨t,by rw[DU e2 qu]⟩
theorem NH(a d:Yy):adE "min" ⟨[a],[("default",d)]⟩:=by unfold adE;kernel_rfl
theorem NI{X:Cx}{e d:acg}{te td:TE}{p pos kp:Pos}(hc:X.calm=true)(hg:Gl X "min")(hm:X.mg "min" = none)(he:PE X e te)(hd:PE X d td)
 (hs:YQ [e] X.env=(false,eval e X.env)::YQ [] X.env:=by rfl) (hq:aap pos (YQ [e] X.env)=(false,eval e X.env)::aap pos (YQ [] X.env):=by rfl) :
 PE X (.Call (.Name "min" p) [e] [⟨some "default",d,kp⟩] pos) (uw X.K oh te td) :=
 DW (by decide) abV aaD afr afd afe NH qp (by decide) (by decide) (λ_ xs=>⟨_,CmpOf.ints_lt (aet xs) (λ_ _=>aeu),λ_ e h=>Ny e h⟩) hc hg hm he hd hs hq
end
section
theorem DY{ch:List YC}(I:Inv X pins σ H s)(k:∀ b o,b∉ch->s.heap.get? b=some o->h'.get? b=some o)(hf:∀ b∈ch,cS X pins H b){H':Hp}(up:∀ b u,H b=some u->H' b=some u):∀ b u,H b=some u->br X.prog X.w H' h' b u:=by
 have kY:∀ b u,H b=some u->b∉ch:=λb u e z=>by rw[(hf b z).1] at e;cases e
 intro b u e;refine (I.ay b u e).fG (λc v hc q=>k c v ?_ q) (λc q=>up c _ q) λc xs q=>up c _ q;rcases hc with z|z
 .rw[z];exact kY b u e
 .exact kY c _ z
theorem DZ{t':Nat}{ch:List YC}(I:Inv X pins σ H s)(k:∀ b o,b∉ch->s.heap.get? b=some o->h'.get? b=some o)(hf:∀ b∈ch,cS X pins H b):Inv X pins σ H { s with heap:=h',toks:=t' }:=by
 refine I.step (g':=s.gens) (d':=s.drawn) (ch:=ch) (λb hb=>?_) (λb o _ _ hc e _=>k b o hc e) (λb o _ _ hc e _=>⟨o.slots,k b o hc e⟩) (λ_ _ _ _ n=>n)
  (λb o hc e=>⟨o,k b o hc e⟩) (λ_ _ e=>e) (λ_ _ _ e=>e) (λb ps e=>⟨#[],by rw[e];simp⟩) (λm hm=>?_) (λb u e=>DY I k hf (λ_ _ q=>q) b u e) I.bare
 .obtain⟨_,d1,d2,d3,d4,d5⟩:=hf b hb;exact⟨d3,d1,d4,d5⟩
 .obtain⟨o,es,ep,ho,r⟩:=hm;exact⟨o,es,ep,k _ o (λz=>(hf _ z).2.1 rfl) ho,r⟩
theorem D0{t':Nat}{ch:List YC}{T:YC}{o:HO}(I:Inv X pins σ H s)(k:∀ b o,b∉ch->s.heap.get? b=some o->h'.get? b=some o)(hf:∀ b∈ch,cS X pins H b)(hT:s.heap.objs.size<=T)
 (new:br X.prog X.w (upd H T o) h' T o):Inv X pins σ (upd H T o) { s with heap:=h',toks:=t' }:=by
 have hn:=I.ay.fresh hT;have neT:∀ b u,s.heap.get? b=some u->b≠T:=λb u e=>YH (YJ (Yv e) hT);have ku:∀ b u,H b=some u->b≠T:=λb u e=>ir e hn;have up:∀ b u,H b=some u->upd H T o b=some u:=λb u e=>by rw[aD (ku b u e)];exact e
 refine I.step (g':=s.gens) (d':=s.drawn) (ch:=ch) (λb hb=>?_) (λb o _ _ hc e _=>k b o hc e) (λb o _ _ hc e _=>⟨o.slots,k b o hc e⟩) (λb u _ e n=>by rw[aD (neT b u e)];exact n)
  (λb o hc e=>⟨o,k b o hc e⟩) (λb xs e=>up b _ e) (λb _ _ e=>up b _ e) (λb ps e=>⟨#[],by rw[up b _ e];simp⟩) (λm hm=>?_) (λb u e=>?_) I.bare
 .obtain⟨_,d1,d2,d3,d4,d5⟩:=hf b hb;exact⟨d3,d1,d4,d5⟩
 .obtain⟨o,es,ep,ho,r⟩:=hm;exact⟨o,es,ep,k _ o (λz=>(hf _ z).2.1 rfl) ho,r⟩
 .by_cases hb:b=T
  .subst hb;rw[ax] at e;cases e;exact new
  .rw[aD hb] at e;exact DY I k hf up b u e
end
noncomputable def ux(K:Yp)(a:YC)(n:Nat):It :=
 ⟨λi H=>∃ xs x,ai K H a xs/\xs.length=n/\xs.reverse[i]?=some x,λi H x H'=>H'=H/\∀ xs,ai K H a xs->xs.length=n->xs.reverse[i]?=some x,λi _=>i=n⟩
theorem NJ{P:Zo}{w:ZZ}{K:Yp}{tg:acg}(a it:YC)(n:Nat):Turn P w K tg (ux K a n) [it] it (λi h=>i<=n/\h.IsRevIter it a ((n:Int)-1-(i:Nat))) where
 mem:=by simp
 obj:=λi h st b hb=>by
  have e:b=it:=by simpa using hb
  subst e;obtain⟨_,o,e,c,d⟩:=st;exact⟨o,e,λv z=>by rw[d] at z;cases z⟩
 keep:=λi h h' st k=>⟨st.1,st.2.at λo e=>k it (by simp) o e⟩
 item:=by
  intro X hP hw hK hc i pins s σ H E I hf st hg;subst hP hw hK;obtain⟨xs,x,hq,hn,hx⟩:=hg;obtain⟨ao,rv,p,hz⟩:=I.list hq;have hl:=rv.length;have hi:i<n:=by have:=(Yx.mp hx).1;rw[Z9] at this;lia
  have cN:xs[n-1-i]?=some x:=by rw[aaH (by lia),hn] at hx;exact hx
  obtain⟨u,hu,ru⟩:=rv.get cN;obtain⟨f0,f1,f2,f3,f4,f5⟩:=hf it (by simp);have cz:=st.2;rw[show (n:Int)-1-(i:Nat)=((n-1-i:Nat):Int) by lia] at cz;refine wpAny_pyNext_rev_item cz p.isList (x:=u) (by simpa using hu) λh' cz sb=>?_;have I1:Inv X pins σ H { s with heap:=h' }:=I.turned (t':=s.toks) (λb o hb e=>(sb.2 b hb).trans e) f0 f1 f3 f4 f5;obtain⟨o,e,c,d⟩:=id cz;rw[show ((n-1-i:Nat):Int)-1=(n:Int)-1-((i+1:Nat):Int) by lia] at cz;exact⟨u,rfl,nP (s:={ s with heap:=h' }) e c d (by decide) ⟨x,H,I1,ru,⟨rfl,λys hy _=>by rw[I.pX hy hq];exact hx⟩,⟨by lia,cz⟩,λb hb=>(hf b hb).1⟩⟩
 done:=by
  intro X hP hw hK hc i pins s σ H E I hf st hg;subst hP hw hK;have NK:i=n:=hg;subst NK;obtain⟨f0,f1,f2,f3,f4,f5⟩:=hf it (by simp);have cz:=st.2;rw[show (i:Int)-1-(i:Nat) = -1 by lia] at cz;exact wpAny_pyNext_rev_end (I.ok.hd hc) cz λh' eb=>⟨rfl,I.turned (t':=s.toks) (λb o hb e=>eb b o hb e) f0 f1 f3 f4 f5⟩
 self:=λ_ _ _ _ _ st h=>aed st.2 h
def xO(K:Yp)(ta:TA):TI:=λσ H R=>ta σ H λvs H1=>∃ a xs,vs=[.ref a]/\ai K H1 a xs/\R (ux K a xs.length) H1
theorem NL(hg:Gl X "reversed")(hm:X.mg "reversed" = none)(ha:PA X [e] ta)(hs:YQ [e] X.env=[(false,eval e X.env)]:=by rfl):PI X tg (.Call (.Name "reversed" p) [e] [] pos) (xO X.K ta):=by
 intro pins s σ H R I h;refine agG (eX I hg hm Mq (Y7 (aB (ha pos pins s σ H _ I h) λus s1 zq=>?_) hs rfl));obtain⟨vs,H1,I1,r1,q1⟩:=zq;obtain⟨a,xs,rfl,hq,q⟩:=q1;obtain⟨u,rfl,ru⟩:=vals1 r1;cases ru;obtain⟨ao,rv,p,hz⟩:=I1.list hq;refine call_reversed_list p.isList ?_;have hl:=rv.length;refine aed (i:=(ao.toArray.size:Int)-1) (l:=a) ⟨_,YA _ rfl,rfl,rfl⟩ ?_;refine⟨s1.heap.objs.size,[s1.heap.objs.size],_,_,H1,rfl,I1.kept (t':=s1.toks) λb o e=>Yt _ e,NJ a _ xs.length,⟨YS _,_,YA _ rfl,rfl,?_⟩,λb hb=>?_,q⟩
 .rw[YD,<- hl];simp;rfl
 .have e:b=s1.heap.objs.size:=by simpa using hb
  subst e;exact I1.gJ (Yz _) (I1.ay.fresh (Yz _))
noncomputable def uy(K:Yp)(a:YC):It :=
 ⟨λi H=>∃ xs x,ai K H a xs/\xs[i]?=some x,λi H v H'=>∃ (p:YC) (x:V),v = .ref p/\H p=none/\H'=upd H p (.tup [.int i,x])/\∀ xs,ai K H a xs->xs[i]?=some x,λi H=>∃ xs,ai K H a xs/\xs.length<=i⟩
theorem xP:2<=YR:=by decide
theorem NM{P:Zo}{w:ZZ}{K:Yp}{es:List acg}{k:Nat}{tp:Pos}(a e it:YC)(D1:e≠it):Turn P w K (.Tuple es k tp) (uy K a) [e,it] e (λi h=>(∃ old,IsEnum h e it (i:Nat) old)/\h.IsListIter it a i) where
 mem:=by simp
 obj:=λi h st b hb=>by
  obtain⟨⟨old,he⟩,o,ho,c,d⟩:=st;have bS:b=e∨b=it:=by simpa using hb
  rcases bS with rfl|rfl
  .exact⟨_,he,λv z=>by
    have z':Data.fields _=Data.cell v:=z;cases z'⟩
  .exact⟨o,ho,λv z=>by rw[d] at z;cases z⟩
 keep:=λi h h' st kk=>by obtain⟨⟨old,he⟩,hi⟩:=st;exact⟨⟨old,kk e (by simp) _ he⟩,hi.at λo e=>kk it (by simp) o e⟩
 item:=by
  intro X hP hw hK hc i pins s σ H E I hf st hg;subst hP hw hK;obtain⟨xs,x,hq,hx⟩:=hg;obtain⟨⟨old,he⟩,hit⟩:=st;obtain⟨ao,rv,p,hz⟩:=I.list hq;obtain⟨u,hu,ru⟩:=rv.get hx;refine adN he hit p.isList (x:=u) (by simpa using hu) D1 λh1 ho NN hT hsz hk=>?_;refine⟨_,rfl,wpAny_letOwnedTupleGo_enum ho λh2 D2 cA=>?_⟩;have xQ:Heap.SameBut e h1 h2:=cA;have neT:s.heap.objs.size≠e:=Zx (Yv he);have up:∀ b o,b∉[e,it]->s.heap.get? b=some o->h2.get? b=some o:=λb o hb q=>by
   have bS:b≠e/\b≠it:=by simpa using hb
   exact xQ.extBut b o bS.1 (hk b o bS.1 bS.2 q)
  have hn:H s.heap.objs.size=none:=I.ay.fresh (Yz _);refine⟨.ref s.heap.objs.size,upd H s.heap.objs.size (.tup [.int i,x]),D0 (s:=s) (h':=h2) (t':=s.toks+1) I up hf (Yz _) ⟨xP,[.int i s.toks,u],.cons ⟨_,rfl⟩ (.cons ru .nil),?_⟩,rfl,⟨_,x,rfl,hn,rfl,λys hy=>by rw[I.pX hy hq];exact hx⟩,⟨⟨u,?_⟩,?_⟩,λb hb=>?_⟩
  .have:=xQ.extBut _ _ neT hT;exact⟨_,this,rfl,_,rfl⟩
  .have:((i:Int)+1)=((i+1:Nat):Int):=by lia
   rw[<- this];exact D2
  .exact NN.at λo q=>xQ.extBut _ _ (Zj D1) q
  .rw[aD]
   .exact (hf b hb).1
   .have bS:b=e∨b=it:=by simpa using hb
    rcases bS with rfl|rfl
    .exact Zj neT
    .obtain⟨o,q,_⟩:=hit;exact YH (Yv q)
 done:=by
  intro X hP hw hK hc i pins s σ H E I hf st hg;subst hP hw hK;obtain⟨xs,hq,hx⟩:=hg;obtain⟨⟨old,he⟩,hit⟩:=st;obtain⟨ao,rv,p,hz⟩:=I.list hq;have hl:=rv.length;refine ad0 (I.ok.hd hc) he hit p.isList (by simp;lia) λh' eb=>⟨rfl,DZ (t':=s.toks) I (λb o hb q=>?_) hf⟩
  have bS:b≠e/\b≠it:=by simpa using hb
  exact eb b o bS.2 q
 self:=λ_ i s Q E st h=>by obtain⟨⟨old,he⟩,_⟩:=st;exact adf he h
def xR(K:Yp)(ta:TA):TI:=λσ H R=>ta σ H λvs H1=>∃ a,vs=[.ref a]/\(∃ xs,ai K H1 a xs)/\R (uy K a) H1
theorem xS(hg:Gl X "enumerate")(hm:X.mg "enumerate" = none)(ha:PA X [e] ta)(hs:YQ [e] X.env=[(false,eval e X.env)]:=by rfl):PI X (.Tuple es k tp) (.Call (.Name "enumerate" p) [e] [] pos) (xR X.K ta):=by
 intro pins s σ H R I h;refine agG (eX I hg hm Dh (Y7 (aB (ha pos pins s σ H _ I h) λus s1 zq=>?_) hs rfl));obtain⟨vs,H1,I1,r1,q1⟩:=zq;obtain⟨a,rfl,⟨xs,hq⟩,q⟩:=q1;obtain⟨u,rfl,ru⟩:=vals1 r1;cases ru;obtain⟨ao,rv,p,hz⟩:=I1.list hq;refine aev p.isList λh' he hit hsz hk=>?_;refine adf he ?_;have I2:Inv X pins σ H1 { s1 with heap:=h' }:=I1.kept (t':=s1.toks) hk;refine⟨s1.heap.objs.size+1,[s1.heap.objs.size+1,s1.heap.objs.size],_,_,H1,rfl,I2,NM a _ _ (by walk_at "o"),⟨⟨.none,he⟩,hit⟩,λb hb=>?_,q⟩;have bS:b=s1.heap.objs.size+1∨b=s1.heap.objs.size:=by simpa using hb
 rcases bS with rfl|rfl
 .exact I1.gJ (acx _) (I1.ay.fresh (acx _))
 .exact I1.gJ (Yz _) (I1.ay.fresh (Yz _))
noncomputable def qD(K:Yp)(a b:YC):It :=
 ⟨λi H=>∃ xs ys x y,ai K H a xs/\ai K H b ys/\xs[i]?=some x/\ys[i]?=some y,λi H v H'=>∃ (p:YC) (x y:V),v = .ref p/\H p=none/\H'=upd H p (.tup [x,y])/\(∀ xs,ai K H a xs->xs[i]?=some x)/\∀ ys,ai K H b ys->ys[i]?=some y,
  λi H=>∃ xs ys,ai K H a xs/\ai K H b ys/\(xs.length<=i∨ys.length<=i)⟩
theorem NO{P:Zo}{w:ZZ}{K:Yp}{es:List acg}{k:Nat}{tp:Pos}(a b z TI TO i1 i2:YC)(D:ZipApart z TI TO i1 i2 a b):Turn P w K (.Tuple es k tp) (qD K a b) [z,TI,TO,i1,i2] z
 (λi h=>IsZip h z TI TO .none/\IsPair h TI (.ref i1) (.ref i2)/\(∃ a b,IsPair h TO a b)/\h.IsListIter i1 a i/\h.IsListIter i2 b i) where
 mem:=by simp
 obj:=λi h st c hc=>by
  obtain⟨hz,iN,⟨ta,tb,jE⟩,⟨o1,h1,c1,d1⟩,⟨o2,h2,c2,d2⟩⟩:=st;have j4:c=z∨c=TI∨c=TO∨c=i1∨c=i2:=by simpa using hc
  rcases j4 with rfl|rfl|rfl|rfl|rfl
  .exact⟨_,hz,λv q=>by
    have q':Data.fields _=Data.cell v:=q;cases q'⟩
  .exact⟨_,iN,λv q=>by
    have q':Data.seq _ _=Data.cell v:=q;cases q'⟩
  .exact⟨_,jE,λv q=>by
    have q':Data.seq _ _=Data.cell v:=q;cases q'⟩
  .exact⟨o1,h1,λv q=>by rw[d1] at q;cases q⟩
  .exact⟨o2,h2,λv q=>by rw[d2] at q;cases q⟩
 keep:=λi h h' st kk=>by obtain⟨hz,iN,⟨ta,tb,jE⟩,h1,h2⟩:=st;exact⟨kk z (by simp) _ hz,kk TI (by simp) _ iN,⟨ta,tb,kk TO (by simp) _ jE⟩,h1.at λo e=>kk i1 (by simp) o e,h2.at λo e=>kk i2 (by simp) o e⟩
 item:=by
  intro X hP hw hK hc i pins s σ H E I hf st hg;subst hP hw hK;obtain⟨xs,ys,x,y,hqx,hqy,hx,hy⟩:=hg;obtain⟨hz,iN,⟨ta,tb,jE⟩,h1,h2⟩:=st;obtain⟨ao,rv,p1,_⟩:=I.list hqx;obtain⟨jts,uz,p2,_⟩:=I.list hqy;obtain⟨u,hu,ru⟩:=rv.get hx;obtain⟨v,hv,NP⟩:=uz.get hy;refine wpAny_pyNext_zip_item D hz iN jE h1 h2 p1.isList p2.isList (x:=u) (y:=v) (by simpa using hu) (by simpa using hv) λh' z1 t1 l1 l2 pT hsz hk=>?_;refine⟨_,rfl,wpAny_letOwnedTupleGo_zip z1 λh3 z3 NQ=>?_⟩;have oi:Heap.SameBut z h' h3:=NQ;have neT:s.heap.objs.size≠z:=Zx (Yv hz);have up:∀ b o,b∉[z,TI,TO,i1,i2]->s.heap.get? b=some o->h3.get? b=some o:=λb o hb q=>by
   have bS:b≠z/\b≠TI/\b≠TO/\b≠i1/\b≠i2:=by simpa using hb
   exact oi.extBut b o bS.1 (hk b o bS.1 bS.2.2.1 bS.2.2.2.1 bS.2.2.2.2 q)
  have hn:H s.heap.objs.size=none:=I.ay.fresh (Yz _);refine⟨.ref s.heap.objs.size,upd H s.heap.objs.size (.tup [x,y]),D0 (s:=s) (h':=h3) (t':=s.toks) I up hf (Yz _) ⟨xP,[u,v],.cons ru (.cons NP .nil),?_⟩,rfl,⟨_,x,y,rfl,hn,rfl,λzs xT=>by rw[I.pX xT hqx];exact hx,λzs xT=>by rw[I.pX xT hqy];exact hy⟩,
   ⟨z3,oi.extBut _ _ D.TIz (hk _ _ D.TIz D.TITO D.TIi1 D.TIi2 iN),⟨_,_,oi.extBut _ _ D.TOz t1⟩,l1.at λo q=>oi.extBut _ _ D.i1z q,l2.at λo q=>oi.extBut _ _ D.i2z q⟩,λb hb=>?_⟩
  .have:=oi.extBut _ _ neT pT;exact⟨_,this,rfl,_,rfl⟩
  .rw[aD]
   .exact (hf b hb).1
   .have bS:b=z∨b=TI∨b=TO∨b=i1∨b=i2:=by simpa using hb
    rcases bS with rfl|rfl|rfl|rfl|rfl
    .exact Zj neT
    .exact YH (Yv iN)
    .exact YH (Yv jE)
    .obtain⟨o,q,_⟩:=h1;exact YH (Yv q)
    .obtain⟨o,q,_⟩:=h2;exact YH (Yv q)
 done:=by
  intro X hP hw hK hc i pins s σ H E I hf st hg;subst hP hw hK;obtain⟨xs,ys,hqx,hqy,hx⟩:=hg;obtain⟨hz,iN,⟨ta,tb,jE⟩,h1,h2⟩:=st;obtain⟨ao,rv,p1,_⟩:=I.list hqx;obtain⟨jts,uz,p2,_⟩:=I.list hqy;have l1:=rv.length;have l2:=uz.length;refine wpAny_pyNext_zip_end (I.ok.hd hc) D hz iN jE h1 h2 p1.isList p2.isList (hx.imp (λq=>by simp;lia) λq=>by simp;lia) λh' hk=>⟨rfl,DZ (t':=s.toks) I (λb o hb q=>?_) hf⟩
  have bS:b≠z/\b≠TI/\b≠TO/\b≠i1/\b≠i2:=by simpa using hb
  exact hk b o bS.1 bS.2.2.1 bS.2.2.2.1 bS.2.2.2.2 q
 self:=λ_ i s Q E st h=>afs st.1 h
def xU(K:Yp)(ta:TA):TI:=λσ H R=>ta σ H λvs H1=>∃ a b,vs=[.ref a,.ref b]/\(∃ xs,ai K H1 a xs)/\(∃ ys,ai K H1 b ys)/\R (qD K a b) H1
theorem D3(hg:Gl X "zip")(hm:X.mg "zip" = none)(ha:PA X [e,f] ta)(hs:YQ [e,f] X.env=(false,eval e X.env)::YQ [f] X.env:=by rfl)(cA:YQ [f] X.env=[(false,eval f X.env)]:=by rfl):PI X (.Tuple es k tp) (.Call (.Name "zip" p) [e,f] [] pos) (xU X.K ta):=by
 intro pins s σ H R I h;refine agG (eX I hg hm Mp (Y7 (aB (ha pos pins s σ H _ I h) λus s1 ⟨vs,H1,I1,r1,q1⟩=>?_) hs (by rw[cA];rfl)));obtain⟨a,b,rfl,⟨xs,hqx⟩,⟨ys,hqy⟩,q⟩:=q1;obtain⟨u,v,rfl,ru,NR⟩:=vals2 r1;cases ru;cases NR;obtain⟨ao,rv,p1,_⟩:=I1.list hqx;obtain⟨jts,uz,p2,_⟩:=I1.list hqy;have a1:a<s1.heap.objs.size:=by obtain⟨_,e,_⟩:=p1.isList;exact Yv e
 have a2:b<s1.heap.objs.size:=by obtain⟨_,e,_⟩:=p2.isList;exact Yv e
 refine call_zip_2 p1.isList p2.isList λh' hz iN jE h1 h2 hsz hk=>?_;refine afs hz ?_;have I2:Inv X pins σ H1 { s1 with heap:=h' }:=I1.kept (t':=s1.toks) hk;refine⟨s1.heap.objs.size+4,[s1.heap.objs.size+4,s1.heap.objs.size+2,s1.heap.objs.size+3,s1.heap.objs.size,s1.heap.objs.size+1],_,_,H1,rfl,I2,NO a b _ _ _ _ _ (zipApart_new a1 a2),⟨hz,iN,⟨_,_,jE⟩,h1,h2⟩,λc hc=>?_,q⟩;have j4:s1.heap.objs.size<=c:=by simp only[YK,abw,or_false] at hc;walk_at "o"
 exact I1.gJ j4 (I1.ay.fresh j4)
section
theorem D4(hc:X.calm=true):dW X (.builtin "sum") (λxs H Q=>∃ (a:YC) (ns:List Int),xs=[.ref a]/\ai X.K H a (ns.map V.int)/\Q (.int ns.sum) H):=by
 intro pins s σ H xs us Q I r h;obtain⟨a,ns,rfl,hS,q⟩:=h;obtain⟨u,rfl,ru⟩:=vals1 r;cases ru;obtain⟨ao,rv,hp,_⟩:=I.list hS;obtain⟨xs,e1,e2⟩:=uv rv;obtain⟨o,n,ho,bq,_,hdt⟩:=hp;have hl:s.heap.IsList a (aan xs):=⟨o,ho,bq,n,by rw[hdt,e1]⟩
 refine sum_intListG (I.ok.hd hc) hl λh' tk t' hk=>⟨.int ns.sum,H,I.kept hk,⟨t',?_⟩,q⟩
 rw[preSum_eq,adO (by simp),e2]
theorem xV:∀ {bs:List Bool} {ao:List Yy},Vals (bs.map V.bl) ao->ao=bs.map Z3
 | [],ao,r=>by cases r;rfl
 | b::bs,ao,r=>by
  cases r with
  | cons r1 r2 =>
   cases r1;rw[xV r2];rfl
theorem D5(hc:X.calm=true):dW X (.builtin "all") (λxs H Q=>∃ (a:YC) (bs:List Bool),xs=[.ref a]/\ai X.K H a (bs.map V.bl)/\Q (.bl (bs.all id)) H):=by
 intro pins s σ H xs us Q I r h;obtain⟨a,bs,rfl,hS,q⟩:=h;obtain⟨u,rfl,ru⟩:=vals1 r;cases ru;obtain⟨ao,rv,hp,_⟩:=I.list hS;have e:=xV rv;subst e;have hl:=hp.isList;have aT:a<s.heap.objs.size:=by obtain⟨_,e,_⟩:=hl;exact Yv e
 refine call_all_walk (abY hl ?_);refine⟨s.heap.objs.size,[s.heap.objs.size,a],[s.heap.objs.size],(bs.map Z3).toArray.size,_,_,λi=>(bs[i]?).getD true,rfl,Walks.list (A:=X.A.in1) (I.ok.hd hc) _ a (YH aT) (bs.map Z3).toArray,⟨⟨_,YA _ rfl,rfl,rfl⟩,hl.push _⟩,λi v s' Q' E' hP hQ=>?_,λh' tk hk=>?_⟩
 .have ky:(bs[i]?).map Z3=some v:=by simpa using hP
  cases e:bs[i]? with
  | none=>rw[e] at ky;cases ky
  | some b =>
   rw[e] at ky;cases ky;simp only[e,abx] at hQ;exact Zg hQ
 .have e:((YZ (bs.map Z3).toArray.size).all λi=>(bs[i]?).getD true)=bs.all id:=by rw[YD,Yq];exact PyProof.Rows.LSm.range_all bs
  rw[e];exact⟨.bl (bs.all id),H,I.kept (λb o q=>hk b o (λz=>by
   have:b=s.heap.objs.size:=by simpa using z
   rw[this] at q;exact ZK _ (Yv q)) (Yt _ q)),rfl,q⟩
theorem D6(hc:X.calm=true):dW X (.builtin "any") (λxs H Q=>∃ (a:YC) (bs:List Bool),xs=[.ref a]/\ai X.K H a (bs.map V.bl)/\Q (.bl (bs.any id)) H):=by
 intro pins s σ H xs us Q I r h;obtain⟨a,bs,rfl,hS,q⟩:=h;obtain⟨u,rfl,ru⟩:=vals1 r;cases ru;obtain⟨ao,rv,hp,_⟩:=I.list hS;have e:=xV rv;subst e;have hl:=hp.isList;have aT:a<s.heap.objs.size:=by obtain⟨_,e,_⟩:=hl;exact Yv e
 refine call_any_walk (abY hl ?_);refine⟨s.heap.objs.size,[s.heap.objs.size,a],[s.heap.objs.size],(bs.map Z3).toArray.size,_,_,λi=>(bs[i]?).getD false,rfl,Walks.list (A:=X.A.in1) (I.ok.hd hc) _ a (YH aT) (bs.map Z3).toArray,⟨⟨_,YA _ rfl,rfl,rfl⟩,hl.push _⟩,λi v s' Q' E' hP hQ=>?_,λh' tk hk=>?_⟩
 .have ky:(bs[i]?).map Z3=some v:=by simpa using hP
  cases e:bs[i]? with
  | none=>rw[e] at ky;cases ky
  | some b =>
   rw[e] at ky;cases ky;simp only[e,abx] at hQ;exact Zg hQ
 .have e:((YZ (bs.map Z3).toArray.size).any λi=>(bs[i]?).getD false)=bs.any id:=by rw[YD,Yq];exact PyProof.Rows.LSm.range_any bs
  rw[e];exact⟨.bl (bs.any id),H,I.kept (λb o q=>hk b o (λz=>by
   have:b=s.heap.objs.size:=by simpa using z
   rw[this] at q;exact ZK _ (Yv q)) (Yt _ q)),rfl,q⟩
end
section
variable{K:Yp}{g:TG}{tb:TS}{D:Ends}{σ:L2.St}{H:Hp}{a b:YC}{xs ys:List V}
theorem NS{ta:TA}:jm (xO K ta) g tb D σ H=ta σ H (λvs H1=>∃ a xs,vs=[.ref a]/\ai K H1 a xs/\FJ (ux K a xs.length) g tb D σ H1):=rfl
theorem NT{ta:TA}:jm (xR K ta) g tb D σ H=ta σ H (λvs H1=>∃ a,vs=[.ref a]/\(∃ xs,ai K H1 a xs)/\FJ (uy K a) g tb D σ H1):=rfl
theorem NU{ta:TA}:jm (xU K ta) g tb D σ H=ta σ H (λvs H1=>∃ a b,vs=[.ref a,.ref b]/\(∃ xs,ai K H1 a xs)/\(∃ ys,ai K H1 b ys)/\FJ (qD K a b) g tb D σ H1):=rfl
theorem xW(Pv:Nat->L2.St->Hp->Prop)(h0:Pv 0 σ H)(hl:∀ i σ H,i<=xs.length->Pv i σ H->ai K H a xs)(hs:∀ i x σ H p,xs[i]?=some x->Pv i σ H->H p=none->g (.ref p) σ (upd H p (.tup [.int i,x])) λσ2 H2=>tb { D with nx:=Pv (i+1),ct:=Pv (i+1),bk:=D.nx } σ2 H2)(hd:∀ σ H,Pv xs.length σ H->D.nx σ H):FJ (uy K a) g tb D σ H:=by
 refine⟨λi m σ H=>m=xs.length-i/\i<=xs.length/\Pv i σ H,⟨_,rfl,YS _,h0⟩,?_⟩;rintro i m σ H ⟨rfl,hi,p⟩;have q:=hl i σ H hi p;by_cases aT:i<xs.length
 .refine .inr ⟨⟨xs,xs[i],q,by simp[aT]⟩,Pv (i+1),λσ' H' p'=>⟨xs.length-(i+1),by lia,rfl,aT,p'⟩,λv H' y=>?_⟩;obtain⟨w,x,rfl,hw,rfl,y⟩:=y;exact hs i x σ _ w (y xs q) p hw
 .have e:i=xs.length:=by lia
  subst e;exact .inl ⟨⟨xs,q,Yz _⟩,hd σ H p⟩
theorem NV(Pv:Nat->L2.St->Hp->Prop)(h0:Pv 0 σ H)(hl:∀ i σ H,Pv i σ H->ai K H a xs/\ai K H b ys)(hs:∀ i x y σ H p,xs[i]?=some x->ys[i]?=some y->Pv i σ H->H p=none->g (.ref p) σ (upd H p (.tup [x,y])) λσ2 H2=>tb { D with nx:=Pv (i+1),ct:=Pv (i+1),bk:=D.nx } σ2 H2)(hd:∀ σ H,Pv (min xs.length ys.length) σ H->D.nx σ H):FJ (qD K a b) g tb D σ H:=by
 refine⟨λi m σ H=>m=min xs.length ys.length-i/\i<=min xs.length ys.length/\Pv i σ H,⟨_,rfl,YS _,h0⟩,?_⟩;rintro i m σ H ⟨rfl,hi,p⟩;have q:=hl i σ H p;by_cases aT:i<min xs.length ys.length
 .have h1:i<xs.length:=by lia
  have h2:i<ys.length:=by lia
  refine .inr ⟨⟨xs,ys,xs[i],ys[i],q.1,q.2,by simp[h1],by simp[h2]⟩,Pv (i+1),λσ' H' p'=>⟨min xs.length ys.length-(i+1),by lia,rfl,aT,p'⟩,λv H' y=>?_⟩;obtain⟨w,x,y',rfl,hw,rfl,e1,e2⟩:=y;exact hs i x y' σ _ w (e1 xs q.1) (e2 ys q.2) p hw
 .have e:i=min xs.length ys.length:=by lia
  refine .inl ⟨⟨xs,ys,q.1,q.2,by lia⟩,hd σ H (e ▸ p)⟩
end
theorem mI{K:Yp}{i j:Nat}{p:YC}{x y:V}{σ:L2.St}{H:Hp}{Q:L2.St->Hp->Prop}(h:ah K H p [x,y])(q:Q ((σ.set i (some x)).set j (some y)) H):j7 K 2 (cR (cj i) (cR (cj j) ji)) (.ref p) σ H Q :=
 ⟨p,[x,y],rfl,h,rfl,x,[y],rfl,y,[],rfl,rfl,q⟩
section
variable{X:Cx}{K:Yp}
def oj(Ok:Hp->Prop)(ρ:L2.St)(tt:TT)(te:TE):List (V × V)->List V->Hp->(List V->Hp->Prop)->Prop
 | [],zs,H,Q=>Ok H/\Q zs H
 | (x,y)::r,zs,H,Q=>Ok H/\∀ p,H p=none->tt (some x::some y::ρ) (upd H p (.tup [x,y])) λb H1=>if b=true then te (some x::some y::ρ) H1 λz H2=>oj Ok ρ tt te r (zs++[z]) H2 Q else oj Ok ρ tt te r zs H1 Q
theorem NW{os:List (Option V)}(h:os.length=2):∃ a b,os=[a,b]:=by
 match os,h with
 | [a,b],_=>exact⟨a,b,rfl⟩
theorem NX(hn:(xs.zip ys).length<=YR)(h:oj (λH=>ai K H a xs/\ai K H b ys) ρ tt te (xs.zip ys) [] H λzs H'=>∀ l,H' l=none->Q (.ref l) (upd H' l (.lst zs))) :
 jz 2 (qD K a b) (j7 K 2 (cR (cj 0) (cR (cj 1) ji))) ρ tt te H Q:=by
 have hlen:(xs.zip ys).length=min xs.length ys.length:=afO;refine⟨λi m zs H=>m=(xs.zip ys).length-i/\i<=(xs.zip ys).length/\zs.length<=i/\oj (λH=>ai K H a xs/\ai K H b ys) ρ tt te ((xs.zip ys).drop i) zs H λzs H'=>∀ l,H' l=none->Q (.ref l) (upd H' l (.lst zs)),⟨_,rfl,YS _,Yz _,h⟩,?_⟩;rintro i m zs H ⟨rfl,hi,hy,g⟩;by_cases aT:i<(xs.zip ys).length
 .have e:=Zs aT;have h1:i<xs.length:=by lia
  have h2:i<ys.length:=by lia
  have e2:(xs.zip ys)[i]=(xs[i],ys[i]):=List.getElem_zip;rw[e,e2] at g;obtain⟨⟨g0,uA⟩,g1⟩:=g;have l1:∀ y:V,(zs++[y]).length<=i+1:=λy=>by rw[YO,YY];lia
  have l2:zs.length<=i+1:=by lia
  refine .inr ⟨⟨xs,ys,xs[i],ys[i],g0,uA,by simp[h1],by simp[h2]⟩,by lia,λws H'=>ws.length<=i+1/\oj (λH=>ai K H a xs/\ai K H b ys) ρ tt te ((xs.zip ys).drop (i+1)) ws H' λzs H'=>∀ l,H' l=none->Q (.ref l) (upd H' l (.lst zs)),λzs H' q=>⟨_,by lia,rfl,aT,q.1,q.2⟩,λos qx v H' y=>?_⟩;obtain⟨p,x,y',rfl,hp,rfl,ex,ey⟩:=y;have ex:=ex xs g0;have ey:=ey ys uA;rw[Ys h1] at ex;rw[Ys h2] at ey;cases ex;cases ey;obtain⟨o1,o2,rfl⟩:=NW qx;refine mI (ah.of ax) ⟨[some xs[i],some ys[i]],rfl,rfl,?_⟩;simp only[l1,l2,true_and];exact g1 p hp
 .have e:i=(xs.zip ys).length:=by lia
  subst e;rw[adD] at g;obtain⟨⟨g0,uA⟩,g1⟩:=g;exact .inl ⟨⟨xs,ys,g0,uA,by lia⟩,by lia,g1⟩
end
mutual
inductive Dat(K:Yp)(H:Hp):V->acP->Prop where
 | non:Dat K H .non .none
 | bl (b:Bool):Dat K H (.bl b) (.bool b)
 | int (i:Int):Dat K H (.int i) (.int i)
 | str (x:Str):Dat K H (.str x) (.str x)
 | tup {a:YC} {xs:List V} {ds:List acP} (h:ah K H a xs) (r:jF K H xs ds):Dat K H (.ref a) (.tuple ds)
 | lst {a:YC} {xs:List V} {ds:List acP} (h:ai K H a xs) (r:jF K H xs ds):Dat K H (.ref a) (.list ds)
inductive jF(K:Yp)(H:Hp):List V->List acP->Prop where
 | nil:jF K H [] []
 | cons {x:V} {d:acP} {xs:List V} {ds:List acP} (h:Dat K H x d) (r:jF K H xs ds):jF K H (x::xs) (d::ds)
end
section
variable{X:Cx}{pins:List (YC × Obj)}{σ:L2.St}{H:Hp}{s:YB}
theorem Dat.reads(I:Inv X pins σ H s)(d:acP)(h:Dat X.K H v d):RelV v u->∃ as,Reads s.heap u d as:=by
 refine Dat.rec (motive_1:=λv d _=>∀ u,RelV v u->∃ as,Reads s.heap u d as) (motive_2:=λvs ds _=>∀ us,Vals vs us->∃ as,ReadsAll s.heap us ds as) ?_ ?_ ?_ ?_ ?_ ?_ ?_ ?_ h u
 .intro u r;cases r;exact⟨_,.none⟩
 .intro b u r;cases r;exact⟨_,.bool b⟩
 .rintro i u ⟨t,rfl⟩;exact⟨_,.int i t⟩
 .rintro x u ⟨t,rfl⟩;exact⟨_,.str x t⟩
 .intro a xs ds h q ih u r;cases r;obtain⟨ao,rv,⟨o,ho,hc,n,hd⟩,_⟩:=I.tuple h;obtain⟨as,ra⟩:=ih ao rv;exact⟨_,.tuple ho hc hd (by simpa using ra)⟩
 .intro a xs ds h q ih u r;cases r;obtain⟨ao,rv,⟨o,n,ho,hc,_,hd⟩,_⟩:=I.list h;obtain⟨as,ra⟩:=ih ao rv;exact⟨_,.list ho hc hd (by simpa using ra)⟩
 .intro us r;cases r;exact⟨_,.nil⟩
 .intro x d xs ds h q xX xY us r;cases r with
  | cons r1 r2 =>
   obtain⟨as,ra⟩:=xX _ r1;obtain⟨bs,rb⟩:=xY _ r2;exact⟨_,.cons ra rb⟩
def xZ(K:Yp)(neg:Bool):R2:=λx y H Q=>∃ d e,Dat K H x d/\Dat K H y e/\d.canLay0=true/\e.canLay0=true/\d.depth<=60/\Q (.bl (if neg=true then !aag d e else aag d e)) H
theorem x3(hu:X.A.units+64<acv):aX X (Zw .Eq) (xZ X.K false):=by intro pins s σ H x y v u Q I rx ry h;obtain⟨d,e,dx,dy,c1,c2,dd,q⟩:=h;obtain⟨as,ra⟩:=Dat.reads I d dx rx;obtain⟨bs,rb⟩:=Dat.reads I e dy ry;exact SeqAt.compareEq_reads ra rb c1 c2 (by lia) ⟨.bl _,H,I,rfl,q⟩
theorem D7(hu:X.A.units+64<acv):aX X (Zw .NotEq) (xZ X.K true):=by intro pins s σ H x y v u Q I rx ry h;obtain⟨d,e,dx,dy,c1,c2,dd,q⟩:=h;obtain⟨as,ra⟩:=Dat.reads I d dx rx;obtain⟨bs,rb⟩:=Dat.reads I e dy ry;exact SeqAt.compareNe_reads ra rb c1 c2 (by lia) ⟨.bl _,H,I,rfl,q⟩
end
noncomputable def uB(lo st:Int)(n:Nat):It:=⟨λi _=>i<n,λi H x H'=>H'=H/\x = .int (lo+(i:Int) * st),λi _=>n<=i⟩
theorem NY{P:Zo}{w:ZZ}{K:Yp}{tg:acg}(it:YC)(lo st:Int)(n:Nat):Turn P w K tg (uB lo st n) [it] it (λi h=>aeq h it (lo+(i:Nat) * st) ((n:Int)-(i:Nat)) st) where
 mem:=by simp
 obj:=λi h q b hb=>by
  have e:b=it:=by simpa using hb
  subst e;exact⟨_,q,λv z=>by
   have z':Data.fields _=Data.cell v:=z;cases z'⟩
 keep:=λi h h' q k=>k it (by simp) _ q
 item:=by intro X hP hw hK hc i pins s σ H E I hf q hg;subst hP hw hK;obtain⟨f0,f1,f2,f3,f4,f5⟩:=hf it (by simp);have W:=Walks.range (prog:=X.prog) (w:=X.w) (I.ok.hd hc) it lo st n;refine W.item i s _ _ hg q λv h' tk hv q' kk=>?_;obtain⟨t,rfl⟩:=hv;have I1:Inv X pins σ H { s with heap:=h',toks:=tk }:=I.turned (λb o hb e=>kk b o (by simpa using hb) e) f0 f1 f3 f4 f5;exact⟨_,rfl,nP (s:={ s with heap:=h',toks:=tk }) (n := "range_iterator") q' rfl rfl (by decide) ⟨.int (lo+(i:Int) * st),H,I1,⟨t,rfl⟩,⟨rfl,rfl⟩,q',λb hb=>(hf b hb).1⟩⟩
 done:=by
  intro X hP hw hK hc i pins s σ H E I hf q hg;subst hP hw hK;obtain⟨f0,f1,f2,f3,f4,f5⟩:=hf it (by simp);exact adI (I.ok.hd hc) q (by have:n<=i:=hg;lia) λh' eb=>⟨rfl,I.turned (t':=s.toks) (λb o hb e=>eb b o hb e) f0 f1 f3 f4 f5⟩
 self:=λ_ _ _ _ _ q h=>adJ q h
noncomputable def lx(lo hi st:Int):Nat:=(Zr lo hi st).toNat
def x4(ta:TA):TI:=λσ H R=>ta σ H λvs H1=>∃ i j c:Int,vs=[.int i,.int j,.int c]/\(-1000000<=i/\i<=1000000/\-1000000<=j/\j<=1000000/\-1000000<=c/\c<=1000000/\c≠0)/\R (uB i c (lx i j c)) H1
theorem D8(i j c:Int)(h:c≠0):0<=Zr i j c:=by
 unfold Zr;split
 .rename_i hc;split
  .have:=afP (show 0<=j-i-1 by lia) (show 0<=c by lia);lia
  .lia
 .split
  .have:=afP (show 0<=i-j-1 by lia) (show 0 <= -c by lia);lia
  .lia
theorem size_le(i j c:Int)(h : -1000000<=i/\i<=1000000/\-1000000<=j/\j<=1000000/\c≠0):Zr i j c<=2000000:=by
 unfold Zr;split
 .split
  .have:=aft (c) (show 0<=j-i-1 by lia);lia
  .lia
 .split
  .have:=aft (-c) (show 0<=i-j-1 by lia);lia
  .lia
theorem NZ(h : -1000000<=i/\i<=1000000/\-1000000<=j/\j<=1000000/\-1000000<=c/\c<=1000000/\c≠0):Builtin.Range.small i j c=true:=by have h1:=D8 i j c h.2.2.2.2.2.2;have h2:=size_le i j c ⟨h.1,h.2.1,h.2.2.1,h.2.2.2.1,h.2.2.2.2.2.2⟩;unfold Builtin.Range.small;generalize Zr i j c=n at h1 h2 ⊢;simp only[afQ,Z5,acA,decide_eq_true_eq,beq_iff_eq];refine⟨by lia,.inr ?_⟩;split<;>simp only[Z5,decide_eq_true_eq]<;>lia
theorem N0(hg:Gl X "range")(hm:X.mg "range" = none)(ha:PA X [a,b,c] ta)(hs:YQ [a,b,c] X.env=(false,eval a X.env)::YQ [b,c] X.env:=by rfl)(cA:YQ [b,c] X.env=[(false,eval b X.env),(false,eval c X.env)]:=by rfl) :
 PI X tg (.Call (.Name "range" p) [a,b,c] [] pos) (x4 ta):=by
 intro pins s σ H R I h;refine agG (eX I hg hm af7 (Y7 (aB (ha pos pins s σ H _ I h) λus s1 ⟨vs,H1,I1,r1,q1⟩=>?_) (by rw[hs]) (by rw[cA];rfl)));obtain⟨i,j,k,e,hb,q⟩:=q1;subst e;cases r1 with
 | cons r rr =>
  cases rr with
  | cons r' rr =>
   cases rr with
   | cons qE rr =>
    cases rr;obtain⟨t,rfl⟩:=r;obtain⟨t',rfl⟩:=r';obtain⟨D9,rfl⟩:=qE;have hk:k≠0:=hb.2.2.2.2.2.2;refine call_range_3 hk ?_ (.inl (PyProof.noPylong_small (by lia)));refine aeH (IsRange.new ..) (NZ hb) ?_;have I2:Inv X pins σ H1 { s1 with heap:=s1.heap.push { cls:=.type "range",data:=.fields #[.int i t,.int j t',.int k D9] },toks:=s1.toks }:=I1.kept λb o e=>Yt _ e;refine⟨_,[_],_,_,H1,rfl,I2.kept (t':=s1.toks) λb o e=>Yt _ e,NY _ i k (lx i j k),?_,λb hb=>?_,q⟩
    .have e1:i+((0:Nat):Int) * k=i:=by simp
     have e2:((lx i j k:Nat):Int)-((0:Nat):Int)=Zr i j k:=by have:=D8 i j k hk;unfold lx;lia
     show aeq _ _ (i+((0:Nat):Int) * k) (((lx i j k:Nat):Int)-((0:Nat):Int)) k;rw[e1,e2];exact YA _ rfl
    .have e:b=(s1.heap.push { cls:=.type "range",data:=.fields #[.int i t,.int j t',.int k D9] }).objs.size:=by simpa using hb
     subst e;exact I2.gJ (Yz _) (I2.ay.fresh (Yz _))
section
variable{g:TG}{tb:TS}{D:Ends}{σ:L2.St}{H:Hp}{lo st:Int}{n:Nat}
theorem N1:jm (wL ta) g tb D σ H=ta σ H (λvs H1=>∃ i j:Int,vs=[.int i,.int j]/\(-(2 ^ 62)<=i/\i<2 ^ 62/\-(2 ^ 62)<=j/\j<2 ^ 62)/\FJ (gK i (j-i).toNat) g tb D σ H1):=rfl
theorem N2:jm (x4 ta) g tb D σ H=ta σ H (λvs H1=>∃ i j c:Int,vs=[.int i,.int j,.int c]/\(-1000000<=i/\i<=1000000/\-1000000<=j/\j<=1000000/\-1000000<=c/\c<=1000000/\c≠0)/\FJ (uB i c (lx i j c)) g tb D σ H1):=rfl
theorem N3(Pv:Nat->L2.St->Hp->Prop)(h0:Pv 0 σ H)(hs:∀ i σ H,i<n->Pv i σ H->g (.int (lo+(i:Int) * st)) σ H λσ2 H2=>tb { D with nx:=Pv (i+1),ct:=Pv (i+1),bk:=D.nx } σ2 H2)(hd:∀ σ H,Pv n σ H->D.nx σ H):FJ (uB lo st n) g tb D σ H:=by
 refine⟨λi m σ H=>m=n-i/\i<=n/\Pv i σ H,⟨n,by simp,YS _,h0⟩,?_⟩;rintro i m σ H ⟨rfl,hi,p⟩;by_cases aT:i<n
 .refine .inr ⟨aT,Pv (i+1),λσ' H' p'=>⟨n-(i+1),by lia,rfl,aT,p'⟩,λx H' y=>?_⟩;obtain⟨e,y⟩:=y;subst e y;exact hs i σ _ aT p
 .have e:i=n:=by lia
  subst e;exact .inl ⟨Yz _,hd σ H p⟩
end
theorem N4(xs:List V){a b:Nat}(h2:b<=xs.length):jr xs (some (a:Int)) (some (b:Int))=(xs.drop a).take (b-a):=by
 unfold jr;rw[HT.w6,HT.w6,ad1 h2];by_cases h:a<=xs.length
 .rw[ad1 h]
 .rw[afu (by lia),aa5 (Yz _),aa5 (by lia)];simp
theorem N5(xs:List V)(a:Nat):jr xs (some (a:Int)) none=xs.drop a:=by
 unfold jr;rw[HT.w6,HT.Lw];by_cases h:a<=xs.length
 .rw[ad1 h,adO (by rw[abv];lia)]
 .rw[afu (by lia),aa5 (Yz _),aa5 (by lia)];simp
mutual
noncomputable def gR:Nat->acP->Bool
 | _,.none=>true
 | _,.bool _=>true
 | _,.int _=>true
 | n+1,.tuple ds=>oo n ds
 | n+1,.list ds=>oo n ds
 | _,_=>false
noncomputable def oo:Nat->List acP->Bool
 | _,[]=>true
 | n,d::ds=>gR n d && oo n ds
end
mutual
theorem Ea:∀ (d:acP) {n:Nat},gR n d=true->aag d d=true/\d.canLay0=true/\d.depth<=n
 | .none,n,_=>⟨rfl,rfl,YS _⟩
 | .bool b,n,_=>⟨by simp[aag],rfl,YS _⟩
 | .int i,n,_=>⟨by simp[aag],rfl,YS _⟩
 | .str x,0,h=>by simp[gR] at h
 | .str x,n+1,h=>by simp[gR] at h
 | .dict x,0,h=>by simp[gR] at h
 | .dict x,n+1,h=>by simp[gR] at h
 | .tuple ds,0,h=>by simp[gR] at h
 | .list ds,0,h=>by simp[gR] at h
 | .tuple ds,n+1,h=>by obtain⟨a,b,c⟩:=x5 ds (n:=n) (by simpa [gR] using h);exact⟨by simpa only [aag] using a,by simpa only [ael] using b,by simp only[PyData.depth];lia⟩
 | .list ds,n+1,h=>by obtain⟨a,b,c⟩:=x5 ds (n:=n) (by simpa [gR] using h);exact⟨by simpa only [aag] using a,by simpa only [ael] using b,by simp only[PyData.depth];lia⟩
theorem x5:∀ (ds:List acP) {n:Nat},oo n ds=true->aa1 ds ds=true/\ab0 ds=true/\abd ds<=n
 | [],n,_=>⟨rfl,rfl,YS _⟩
 | d::ds,n,h=>by
  have h':gR n d=true/\oo n ds=true:=by simpa [oo] using h
  obtain⟨a,b,c⟩:=Ea d h'.1;obtain⟨a',b',c'⟩:=x5 ds h'.2;exact⟨by simp only[aa1,a,a',adx],by simp only[ab0,b,b',adx],by simp only[abd];lia⟩
end
end Gz
namespace Gz
noncomputable def Eb(a b:Int):Int:=((Nat.gcd a.natAbs b.natAbs:Nat):Int)
noncomputable def sg(t b:Int):Int:=if b<0 then -Eb t b else Eb t b
noncomputable def rt(t b:Int):Int:=t.fdiv (sg t b)
noncomputable def rb(t b:Int):Int:=b.fdiv (sg t b)
end Gz
namespace Gz
open PySem PySem.Spec PyProof.Rows L2
def az{α:Type}(R:V->α->Prop):List V->List α->Prop
 | [],[]=>True
 | x::xs,a::as=>R x a/\az R xs as
 | _,_=>False
section
variable{α:Type}{R R':V->α->Prop}
theorem az.len:∀ {xs:List V} {as:List α},az R xs as->xs.length=as.length
 | [],[],_=>rfl
 | _::_,_::_,h=>by simp[az.len h.2]
 | [],_::_,h=>h.elim
 | _::_,[],h=>h.elim
theorem az.imp(f:∀ x a,R x a->R' x a):∀ {xs:List V} {as:List α},az R xs as->az R' xs as
 | [],[],_=>trivial
 | _::_,_::_,h=>⟨f _ _ h.1,az.imp f h.2⟩
 | [],_::_,h=>h.elim
 | _::_,[],h=>h.elim
theorem az.get:∀ {xs:List V} {as:List α},az R xs as->∀ {i:Nat} {x:V},xs[i]?=some x->∃ a,as[i]?=some a/\R x a
 | [],[],_,i,x,e=>by simp at e
 | _::_,a::_,h,0,x,e=>by simp at e;subst e;exact⟨a,by simp,h.1⟩
 | _::_,_::_,h,i+1,x,e=>by simp only[aal] at e ⊢;exact az.get h.2 e
 | [],_::_,h,_,_,_=>h.elim
 | _::_,[],h,_,_,_=>h.elim
theorem az.at:∀ {xs:List V} {as:List α},az R xs as->∀ {i:Nat} {a:α},as[i]?=some a->∃ x,xs[i]?=some x/\R x a
 | [],[],_,i,x,e=>by simp at e
 | x::_,_::_,h,0,a,e=>by simp at e;subst e;exact⟨x,by simp,h.1⟩
 | _::_,_::_,h,i+1,a,e=>by simp only[aal] at e ⊢;exact az.at h.2 e
 | [],_::_,h,_,_,_=>h.elim
 | _::_,[],h,_,_,_=>h.elim
theorem az.app:∀ {xs ys:List V} {as bs:List α},az R xs as->az R ys bs->az R (xs++ys) (as++bs)
 | [],_,[],_,_,h=>h
 | _::_,_,_::_,_,h,h'=>⟨h.1,az.app h.2 h'⟩
 | [],_,_::_,_,h,_=>h.elim
 | _::_,_,[],_,h,_=>h.elim
theorem az.snoc(h:az R xs as)(h':R x a):az R (xs++[x]) (as++[a]):=h.app ⟨h',trivial⟩
theorem az.ints:∀ (ns:List Int),az (λx n=>x=V.int n) (ns.map V.int) ns
 | []=>trivial
 | n::ns=>⟨rfl,az.ints ns⟩
theorem az.fF{lo:Int}(n:Nat):az (λx (k:Nat)=>x=V.int (lo+k)) ((YZ n).map λk=>V.int (lo+(k:Nat))) (YZ n):=by
 suffices ∀ l:List Nat,az (λx (k:Nat)=>x=V.int (lo+k)) (l.map λk=>V.int (lo+(k:Nat))) l from this _
 intro l
 induction l with
 | nil=>trivial
 | cons a l ih=>exact⟨rfl,ih⟩
end
theorem mJ(bE:Ok H):∀ {xs:List V} {as:List α} {ys:List V},az R xs as ->
 (∀ x a,a∈as->R x a->∀ Q,Q (p a) H->tt (some x::ρ) H Q)->(∀ x a,a∈as->p a=true->R x a->∀ Q:VK,Q (f a) H->te (some x::ρ) H Q) ->
 Q' (ys++(as.filter p).map f) H->dZ Ok ρ tt te xs ys H Q'
 | [],[],ys,_,_,_,q=>⟨bE,by simpa using q⟩
 | x::xs,a::as,ys,h,ht,he,q=>by
  refine⟨bE,ht x a (.head _) h.1 _ ?_⟩;by_cases hb:p a=true
  .rw[if_pos hb];refine he x a (.head _) hb h.1 _ (mJ bE h.2 (λx a ha=>ht x a (.tail _ ha)) (λx a ha=>he x a (.tail _ ha)) ?_);rw[Za,if_pos hb] at q;simpa using q
  .rw[if_neg hb];refine mJ bE h.2 (λx a ha=>ht x a (.tail _ ha)) (λx a ha=>he x a (.tail _ ha)) ?_;rw[Za,if_neg hb] at q;exact q
 | [],_::_,_,h,_,_,_=>h.elim
 | _::_,[],_,h,_,_,_=>h.elim
theorem filter_tt(l:List α):l.filter (λ_=>true)=l:=aay.mpr λ_ _=>rfl
abbrev P2:=Int × Int
def aR(H:Hp)(v:V)(p:P2):Prop:=∃ a,v = .ref a/\H a=some (.tup [.int p.1,.int p.2])
theorem aR.same(h:aR H v p)(s:aj H H'):aR H' v p:=let ⟨a,e,q⟩:=h;⟨a,e,s _ _ q⟩
theorem aR.put(h:aR H v p)(hr:H r=some (.lst ys)):aR (upd H r (.lst zs)) v p:=by obtain⟨a,e,q⟩:=h;refine⟨a,e,?_⟩;rw[aD (nI q hr (λz=>nomatch z))];exact q
abbrev bL(H:Hp):List V->List P2->Prop:=az (aR H)
theorem bL.same(h:bL H xs ps)(s:aj H H'):bL H' xs ps:=az.imp (λ_ _ r=>r.same s) h
noncomputable def aside(s e p:P2):Int:=(p.2-s.2) * (e.1-s.1)-(p.1-s.1) * (e.2-s.2)
noncomputable def aE(ps:List P2)(i:Nat):P2:=ps.getD i (0,0)
def N6(ks:List P2)(p q:Int)(i:Nat):Prop:=i+1<ks.length/\(aE ks i).1 * q<=p/\p<=(aE ks (i+1)).1 * q
def hit(ks:List P2)(p q:Int):Prop:=∃ i,N6 ks p q i
def SameBut(x:YC)(H H':Hp):Prop:=∀ b o,b≠x->H b=some o->H' b=some o
theorem oq(hi:i<ps.length):aE ps i∈ps:=by unfold aE;rw[Yr,Ys hi];exact adF hi
theorem gq{α β:Type}{R:Hp->V->α->Prop}{R':Hp->V->β->Prop}{Ok:Hp->Prop}{ρ:L2.St}{tt:TT}{te:TE}{f:α->β}{Q':List V->Hp->Prop}(mono:∀ H H' x a,aj H H'->R H x a->R H' x a)(iO:∀ H H' x a,aj H H'->R' H x a->R' H' x a) :
 ∀ {xs:List V} {as:List α} {ys:List V} {bs:List β} {H:Hp},az (R H) xs as->az (R' H) ys bs->(∀ H',aj H H'->Ok H')->(∀ x a,a∈as->∀ H',aj H H'->R H' x a->∀ Q,Q true H'->tt (some x::ρ) H' Q) ->
 (∀ x a,a∈as->∀ H',aj H H'->R H' x a->∀ Q:VK,(∀ gQ y,aj H' gQ->R' gQ y (f a)->Q y gQ)->te (some x::ρ) H' Q) ->
 (∀ H' zs,aj H H'->az (R' H') zs (bs++as.map f)->Q' zs H')->dZ Ok ρ tt te xs ys H Q'
 | [],[],ys,bs,H,_,hy,bE,_,_,q=>⟨bE H (aj.refl H),q H ys (aj.refl H) (by simpa using hy)⟩
 | x::xs,a::as,ys,bs,H,h,hy,bE,ht,he,q=>by
  refine⟨bE H (aj.refl H),ht x a (.head _) H (aj.refl H) h.1 _ ?_⟩;rw[if_pos rfl];refine he x a (.head _) H (aj.refl H) h.1 _ λH2 y s2 r2=>?_;refine gq mono iO (bs:=bs++[f a]) (h.2.imp λx a r=>mono _ _ _ _ s2 r) ((hy.imp λx a r=>iO _ _ _ _ s2 r).snoc r2) (λH' s'=>bE H' (s2.trans s')) (λx a ha H' s'=>ht x a (.tail _ ha) H' (s2.trans s')) (λx a ha H' s'=>he x a (.tail _ ha) H' (s2.trans s')) λH' zs s' hz=>?_;refine q H' zs (s2.trans s') ?_;rw[YV]
  rwa [adg] at hz
 | [],_::_,_,_,_,h,_,_,_,_,_=>h.elim
 | _::_,[],_,_,_,h,_,_,_,_,_=>h.elim
noncomputable def sw(ks:List P2):List P2:=ks.map λp=>(p.2,p.1)
end Gz
namespace Gz
open PySem PySem.W PyProof.Rows
def dD{α:Type}(lt:Nat->Nat->Bool)(n:Nat):KasT α->(α->Prop)->Prop
 | .ret a,P=>P a
 | .ask i j k,P=>i<n/\j<n/\dD lt n (k (lt i j)) P
section
theorem ot:∀ (t:KasT α),dD lt n t (λa=>dD lt n (f a) P)->dD lt n (t.bind f) P
 | .ret _,h=>h
 | .ask _ _ k,h=>⟨h.1,h.2.1,ot (k _) h.2.2⟩
theorem Ec{α:Type}{P P':α->Prop}(h:∀ a,P a->P' a):∀ (t:KasT α),dD lt n t P->dD lt n t P'
 | .ret _,q=>h _ q
 | .ask _ _ k,q=>⟨q.1,q.2.1,Ec h (k _) q.2.2⟩
theorem Ed{α:Type}{cmp:Nat->Nat->(Bool->YB->Prop)->YB->Prop}{Ok:YB->Prop}(hc:∀ i j C s,i<n->j<n->Ok s->(∀ s',Ok s'->C (lt i j) s')->cmp i j C s){P:α->Prop}{Q:α->YB->Prop}(hQ:∀ a s,Ok s->P a->Q a s) :
 ∀ (t:KasT α) (s:YB),Ok s->dD lt n t P->t.kasWp cmp Q s
 | .ret a,s,o,h=>hQ a s o h
 | .ask i j k,s,o,h=>hc i j _ s h.1 h.2.1 o λs' o'=>Ed hc hQ (k (lt i j)) s' o' h.2.2
structure Ord(lt:Nat->Nat->Bool):Prop where
 asym:∀ {a b},lt a b=true->lt b a=false
 tr:∀ {a b c},lt b a=false->lt c b=false->lt c a=false
theorem Ord.rfl'(O:Ord lt)(a:Nat):lt a a=false:=by
 cases h:lt a a with
 | false=>rfl
 | true=>rw[O.asym h] at h;cases h
def dE(lt:Nat->Nat->Bool)(p:Array Nat)(k:Nat):Prop:=∀ i j,i<=j->j<k->lt (p.getD j 0) (p.getD i 0)=false
def e9(lt:Nat->Nat->Bool)(p:Array Nat)(k:Nat):Prop:=∀ i j,i<=j->j<k->lt (p.getD i 0) (p.getD j 0)=false
def b8(n:Nat)(p:Array Nat):Prop:=p.toList.Perm (YZ n)
theorem b8.size(h:b8 n p):p.size=n:=by have:=h.length_eq;simpa using this
theorem b8.below(h:b8 n p)(hi:i<n):p.getD i 0<n:=by
 have hs:=h.size;have cv:i<p.size:=by lia
 have e:p.getD i 0=p[i]:=by simp[agb,cv]
 rw[e];have m:p[i]∈p.toList:=by simp
 simpa using h.mem_iff.mp m
theorem b8.of(h:b8 n p)(hq:q.Perm p):b8 n q:=(Array.perm_iff_toList_perm.mp hq).trans h
theorem dE.one(O:Ord lt):dE lt p 1:=λi j gu hj=>by
 have:i=j:=by lia
 subst this;exact O.rfl' _
theorem e9.one(O:Ord lt):e9 lt p 1:=λi j gu hj=>by
 have:i=j:=by lia
 subst this;exact O.rfl' _
theorem dE.succ(O:Ord lt)(h:dE lt p k)(hk:1<=k)(hn:lt (p.getD k 0) (p.getD (k-1) 0)=false):dE lt p (k+1):=λi j gu hj=>by
 by_cases e:j=k
 .subst e;by_cases ei:i=j
  .subst ei;exact O.rfl' _
  .exact O.tr (h i (j-1) (by lia) (by lia)) hn
 .exact h i j gu (by lia)
theorem e9.succ(O:Ord lt)(h:e9 lt p k)(hk:1<=k)(hn:lt (p.getD (k-1) 0) (p.getD k 0)=false):e9 lt p (k+1):=λi j gu hj=>by
 by_cases e:j=k
 .subst e;by_cases ei:i=j
  .subst ei;exact O.rfl' _
  .exact O.tr hn (h i (j-1) (by lia) (by lia))
 .exact h i j gu (by lia)
theorem ly(hj:j<=p.size)(k:Nat):(kas_rev p i j).getD k 0=if i<=k/\k<j then p.getD (i+j-1-k) 0 else p.getD k 0:=by simp only[acB];unfold kas_rev;rw[getElem?_mirror_all hj];split<;>rfl
theorem Ee(hk:k<p.size)(hl:l<=k)(i:Nat):(bubble p k (k-l)).getD i 0=if i=l then p.getD k 0 else if l<i/\i<=k then p.getD (i-1) 0 else p.getD i 0:=by
 simp only[acB];rw[getElem?_bubble hk _ (by lia)];have e:k-(k-l)=l:=by lia
 rw[e];split
 .rfl
 .split<;>rfl
theorem Ef(O:Ord lt)(hp:b8 n p):∀ (f a:Nat),1<=a->a+f<=n->dE lt p a->(∀ m,a<=m->m<=a+f->dE lt p m->P m)->dD lt n (kas_asc p f a) P
 | 0,a,h1,h2,hs,q=>q a (Yz _) (by lia) hs
 | f+1,a,h1,h2,hs,q=>by
  refine⟨hp.below (by lia),hp.below (by lia),?_⟩;cases c:lt (p.getD a 0) (p.getD (a-1) 0) with
  | true =>
   simp only[↓reduceIte];exact q a (Yz _) (by lia) hs
  | false =>
   simp only[YT,↓reduceIte];exact Ef O hp f (a+1) (by lia) (by lia) (hs.succ O h1 c) λm m1 m2=>q m (by lia) (by lia)
theorem e9.rev(h:e9 lt p k)(hk:k<=p.size)(hi:i<=k)(he:∀ j,i<=j->j<k->lt (p.getD (k-1) 0) (p.getD j 0)=false)(O:Ord lt):e9 lt (kas_rev p i k) k:=λa b eZ hb=>by
 rw[ly hk,ly hk];have eqv:∀ x y,i<=x->x<k->i<=y->y<k->lt (p.getD x 0) (p.getD y 0)=false:=λx y x1 x2 y1 y2=>O.tr (he y y1 y2) (h x (k-1) (by lia) (by lia));split
 .split
  .exact eqv _ _ (by lia) (by lia) (by lia) (by lia)
  .exfalso;lia
 .split
  .exact h _ _ (by lia) (by lia)
  .exact h _ _ eZ hb
theorem uC(O:Ord lt):∀ (f:Nat) (p:Array Nat) (k q:Nat),b8 n p->1<=k->k+f<=n->q+1<=k->e9 lt p k->(∀ j,k-(q+1)<=j->j<k->lt (p.getD (k-1) 0) (p.getD j 0)=false) ->
 (∀ p' k' q',b8 n p'->k<=k'->k'<=k+f->q' + 1<=k'->e9 lt p' k'->(∀ j,k' - (q' + 1)<=j->j<k'->lt (p'.getD (k' - 1) 0) (p'.getD j 0)=false)->P (p',k',q'))->dD lt n (kas_desc f p k q) P
 | 0,p,k,q,hp,h1,h2,h3,hd,he,fin=>fin p k q hp (Yz _) (by lia) h3 hd he
 | f+1,p,k,q,hp,h1,h2,h3,hd,he,fin=>by
  have hs:=hp.size;have one:∀ (p':Array Nat),∀ j,(k+1)-(0+1)<=j->j<k+1->lt (p'.getD (k+1-1) 0) (p'.getD j 0)=false:=λp' j j1 j2=>by
   have:j=k:=by lia
   subst this;exact O.rfl' _
  refine⟨hp.below (by lia),hp.below (by lia),?_⟩;cases c:lt (p.getD k 0) (p.getD (k-1) 0) with
  | true =>
   simp only[↓reduceIte];have c':=O.asym c;by_cases hq:q > 0
   .rw[if_pos hq];have c6:b8 n (kas_rev p (k-(q+1)) k):=hp.of (aew _ _ _ _);have ix:e9 lt (kas_rev p (k-(q+1)) k) k:=hd.rev (by lia) (by lia) he O;refine uC O f _ (k+1) 0 c6 (by lia) (by lia) (by lia) (ix.succ O h1 ?_) (one _) λp2 k2 q2 a1 a2 a3 a4 a5 a6=>fin p2 k2 q2 a1 (by lia) (by lia) a4 a5 a6;rw[ly (by lia),ly (by lia),if_pos (by lia),if_neg (by lia)];have e1:k-(q+1)+k-1-(k-1)=k-(q+1):=by lia
    rw[e1];exact O.tr c' (hd _ (k-1) (by lia) (by lia))
   .rw[if_neg hq];exact uC O f p (k+1) 0 hp (by lia) (by lia) (by lia) (hd.succ O h1 c') (one _) λp2 k2 q2 a1 a2 a3 a4 a5 a6=>fin p2 k2 q2 a1 (by lia) (by lia) a4 a5 a6
  | false =>
   simp only[YT,↓reduceIte];refine⟨hp.below (by lia),hp.below (by lia),?_⟩;cases d:lt (p.getD (k-1) 0) (p.getD k 0) with
   | true =>
    simp only[↓reduceIte];exact fin p k q hp (Yz _) (by lia) h3 hd he
   | false =>
    simp only[YT,↓reduceIte];refine uC O f p (k+1) (q+1) hp (by lia) (by lia) (by lia) (hd.succ O h1 d) (λj j1 j2=>?_) λp2 k2 q2 a1 a2 a3 a4 a5 a6=>fin p2 k2 q2 a1 (by lia) (by lia) a4 a5 a6;have ek:k+1-1=k:=by lia
    rw[ek];by_cases ej:j=k
    .subst ej;exact O.rfl' _
    .exact O.tr (he j (by lia) (by lia)) c
theorem e9.whole(h:e9 lt p k)(hk:k<=p.size):dE lt (kas_rev p 0 k) k:=λa b eZ hb=>by rw[ly hk,ly hk,if_pos (by lia),if_pos (by lia)];exact h _ _ (by lia) (by lia)
theorem Eg(O:Ord lt)(hp:b8 n p)(h1:1<=k)(h2:k<=n)(hd:e9 lt p k)(fin:∀ m p',b8 n p'->1<=m->m<=n->dE lt p' m->P (m,p')):dD lt n (kas_tail3 k n p) P:=by have c6:b8 n (kas_rev p 0 k):=hp.of (aew _ _ _ _);have hs:=hp.size;unfold kas_tail3;refine ot _ (Ef O c6 (n-k) k h1 (by lia) (hd.whole (by lia)) λm m1 m2 ms=>?_);exact fin m _ c6 (by lia) (by lia) ms
theorem Eh(O:Ord lt)(hp:b8 n p)(h1:1<=k)(h2:k+1<=n)(hd:e9 lt p (k+1))(fin:∀ m p',b8 n p'->1<=m->m<=n->dE lt p' m->P (m,p')):dD lt n (kas_descPart k n p) P:=by
 unfold kas_descPart;refine ot _ (uC O (n-(k+1)) p (k+1) 0 hp (by lia) (by lia) (by lia) hd (λj j1 j2=>?_) λp2 k2 q2 a1 a2 a3 a4 a5 a6=>?_)
 .have:j=k:=by lia
  subst this;exact O.rfl' _
 .have hs:=a1.size;dsimp only;by_cases hq:q2 > 0
  .rw[if_pos hq];exact Eg O (a1.of (aew _ _ _ _)) (by lia) (by lia) (a5.rev (by lia) (by lia) a6 O) fin
  .rw[if_neg hq];exact Eg O a1 (by lia) (by lia) a5 fin
theorem N7(O:Ord lt)(hp:b8 n p)(hn:1<=n)(fin:∀ m p',b8 n p'->1<=m->m<=n->dE lt p' m->P (m,p')):dD lt n (kas_count n p) P:=by
 have hs:=hp.size;unfold kas_count;have key:dD lt n (kas_asc p (n-1) 1) (λm=>1<=m/\m<=n/\dE lt p m/\(m<n->lt (p.getD m 0) (p.getD (m-1) 0)=true)):=by
  have gen:∀ (f a:Nat),1<=a->a+f=n->dE lt p a->dD lt n (kas_asc p f a) (λm=>1<=m/\m<=n/\dE lt p m/\(m<n->lt (p.getD m 0) (p.getD (m-1) 0)=true)):=by
   intro f
   induction f with
   | zero=>intro a h1 h2 hs;exact⟨h1,by lia,hs,λz=>absurd z (by lia)⟩
   | succ f ih =>
    intro a h1 h2 hs;refine⟨hp.below (by lia),hp.below (by lia),?_⟩;cases c:lt (p.getD a 0) (p.getD (a-1) 0) with
    | true =>
     simp only[↓reduceIte];exact⟨h1,by lia,hs,λ_=>c⟩
    | false =>
     simp only[YT,↓reduceIte];exact ih (a+1) (by lia) (by lia) (hs.succ O h1 c)
  exact gen (n-1) 1 (Yz _) (by lia) (dE.one O)
 refine ot _ (Ec (λm hm=>?_) _ key);obtain⟨m1,m2,ms,mc⟩:=hm;by_cases e:(m == n)=true
 .rw[if_pos e];exact fin m p hp m1 m2 ms
 .rw[if_neg e];have N8:m<n:=by
   have:m≠n:=by simpa using e
   lia
  have mc:=mc N8;by_cases h2:m > 1
  .rw[if_pos h2];refine⟨hp.below (by lia),hp.below (by lia),?_⟩;cases c:lt (p.getD 0 0) (p.getD (m-1) 0) with
   | true =>
    simp only[↓reduceIte];exact fin m p hp m1 m2 ms
   | false =>
    simp only[YT,↓reduceIte];have eqv:∀ x y,x<m->y<m->lt (p.getD x 0) (p.getD y 0)=false:=λx y hx hy =>
     O.tr (ms y (m-1) (by lia) (by lia)) (O.tr c (ms 0 x (by lia) hx))
    have c6:b8 n (kas_rev p 0 m):=hp.of (aew _ _ _ _);refine Eh O c6 m1 (by lia) (λi j gu hj=>?_) fin;rw[ly (by lia),ly (by lia)];by_cases ej:j=m
    .subst ej;rw[if_neg (show ¬ (0<=j/\j<j) by lia)];split
     .exact O.tr (O.asym mc) (eqv _ _ (by lia) (by lia))
     .have:i=j:=by lia
      subst this;exact O.rfl' _
    .rw[if_pos (by lia),if_pos (by lia)];exact eqv _ _ (by lia) (by lia)
  .rw[if_neg h2];have e1:m=1:=by lia
   subst e1;exact Eh O hp (Yz _) (by lia) ((e9.one O).succ O (Yz _) (O.asym mc)) fin
theorem x6(O:Ord lt)(hp:b8 n p)(hk:k<n)(hs:dE lt p k)(fin:∀ m,m<=k->(∀ i,i<m->lt (p.getD k 0) (p.getD i 0)=false)->(∀ i,m<=i->i<k->lt (p.getD i 0) (p.getD k 0)=false)->P m) :
 ∀ (f l r:Nat),r-l<=f->l<=r->r<=k->(∀ i,i<l->lt (p.getD k 0) (p.getD i 0)=false)->(∀ i,r<=i->i<k->lt (p.getD i 0) (p.getD k 0)=false)->dD lt n (kas_place p k f l r) P
 | 0,l,r,h1,h2,h3,a,b=>by
  have:l=r:=by lia
  subst this;exact fin l h3 a b
 | f+1,l,r,h1,h2,h3,a,b=>by
  unfold kas_place;by_cases hlr:l ≥ r
  .rw[if_pos hlr];have:l=r:=by lia
   subst this;exact fin l h3 a b
  .rw[if_neg hlr];refine⟨hp.below hk,hp.below (by lia),?_⟩;cases c:lt (p.getD k 0) (p.getD ((l+r) / 2) 0) with
   | true =>
    simp only[↓reduceIte];refine x6 O hp hk hs fin f l ((l+r) / 2) (by lia) (by lia) (by lia) a λi i1 i2=>?_;exact O.tr (O.asym c) (hs _ _ i1 i2)
   | false =>
    simp only[YT,↓reduceIte];refine x6 O hp hk hs fin f ((l+r) / 2+1) r (by lia) (by lia) h3 (λi i1=>?_) b;exact O.tr (hs i ((l+r) / 2) (by lia) (by lia)) c
theorem Ei(O:Ord lt)(fin:∀ p,b8 n p->dE lt p n->P p):∀ (f:Nat) (p:Array Nat) (k:Nat),k+f=n->b8 n p->dE lt p k->dD lt n (kas_bin f p k) P
 | 0,p,k,h,hp,hs=>fin p hp (by rw[<- h];exact hs)
 | f+1,p,k,h,hp,hs=>by
  have sz:=hp.size;unfold kas_bin;refine ot _ (x6 O hp (by lia) hs (λm m1 ma mb=>?_) k 0 k (by lia) (by lia) (Yz _) (λ_ z=>absurd z (by lia)) λ_ z1 z2=>absurd z2 (by lia));refine Ei O fin f _ (k+1) (by lia) (hp.of (bubble_perm _ _ _)) λi j gu hj=>?_;rw[Ee (by lia) m1,Ee (by lia) m1];by_cases ei:i=m
  .rw[if_pos ei];by_cases ej:j=m
   .rw[if_pos ej];exact O.rfl' _
   .rw[if_neg ej,if_pos (by lia)];exact mb _ (by lia) (by lia)
  .rw[if_neg ei];by_cases ej:j=m
   .rw[if_pos ej,if_neg (by lia)];exact ma _ (by lia)
   .rw[if_neg ej];split
    .split
     .exact hs _ _ (by lia) (by lia)
     .exact hs _ _ (by lia) (by lia)
    .split
     .exfalso;lia
     .exact hs _ _ (by lia) (by lia)
theorem Ej(O:Ord lt)(hn:1<=n):dD lt n (kas_sort n) (λp=>b8 n p/\dE lt p n):=by
 unfold kas_sort;have h0:b8 n (aaI (YZ n)):=by unfold b8;simp
 refine ot _ (N7 O h0 hn λm p hp m1 m2 ms=>?_);dsimp only;by_cases h:m<n
 .rw[if_pos h];have e:max m 1=m:=by lia
  rw[e];exact Ei O (λp hp hs=>⟨hp,hs⟩) (n-m) p m (by lia) hp ms
 .rw[if_neg h];have e:m=n:=by lia
  subst e;exact⟨hp,ms⟩
noncomputable def uD{α:Type}(lt:Nat->Nat->Bool):KasT α->α
 | .ret a=>a
 | .ask i j k=>uD lt (k (lt i j))
theorem Ek:∀ (t:KasT α),dD lt n t P->P (uD lt t)
 | .ret _,h=>h
 | .ask i j k,h=>Ek (k (lt i j)) h.2.2
theorem El:∀ (t:KasT α),dD lt n t P->dD lt n t (λa=>a=uD lt t)
 | .ret _,_=>rfl
 | .ask i j k,h=>⟨h.1,h.2.1,El (k (lt i j)) h.2.2⟩
noncomputable def cy(lt:Nat->Nat->Bool)(n:Nat):Array Nat:=if n<2 then aaI (YZ n) else uD lt (kas_sort n)
theorem ou(O:Ord lt):b8 n (cy lt n)/\dE lt (cy lt n) n:=by
 unfold cy;split
 .rename_i h;refine⟨by unfold b8;simp,λi j gu hj=>?_⟩;have:i=j:=by lia
  subst this;exact O.rfl' _
 .rename_i h;exact Ek _ (Ej O (by lia))
end
end Gz
namespace Gz
open PySem PySem.Spec PyProof.Rows L2
local macro_rules | `(tactic| walk_at "o") => `(tactic| ((try simp only [PySem.Addr] at *); lia))
theorem Em:∀ {a b:List Int},HT.lexLt a b=true->HT.lexLt b a=false
 | [],[],h=>by cases h
 | [],_::_,_=>rfl
 | _::_,[],h=>by cases h
 | x::a,y::b,h=>by
  rw[HT.nU] at h ⊢;by_cases e:x=y
  .subst e;rw[if_pos rfl] at h ⊢;exact Em h
  .rw[if_neg e] at h;rw[if_neg (Zj e)];have:x<y:=by simpa using h
   simpa using (by walk_at "o" : ¬ y<x)
theorem Eo:∀ {a b c:List Int},HT.lexLt b a=false->HT.lexLt c b=false->HT.lexLt c a=false
 | [],[],[],_,_=>rfl
 | [],[],_::_,_,_=>rfl
 | [],_::_,[],_,h=>by cases h
 | [],_::_,_::_,_,_=>rfl
 | _::_,[],_,h,_=>by cases h
 | _::_,_::_,[],_,h=>by cases h
 | x::a,y::b,z::c,h1,h2=>by
  rw[HT.nU] at h1 h2 ⊢;by_cases e1:y=x
  .subst e1;rw[if_pos rfl] at h1;by_cases e2:z=y
   .subst e2;rw[if_pos rfl] at h2 ⊢;exact Eo h1 h2
   .rw[if_neg e2] at h2 ⊢;exact h2
  .rw[if_neg e1] at h1;have Ep:¬ y<x:=by simpa using h1
   by_cases e2:z=y
   .subst e2;rw[if_neg e1];exact h1
   .rw[if_neg e2] at h2;have x8:¬ z<y:=by simpa using h2
    rw[if_neg (by walk_at "o")];simpa using (by walk_at "o" : ¬ z<x)
section
theorem Oa(h:Q (a == b) s):YL (model prog w) A (eqBool (.int a t) (.int b u)) Q E s:=SeqAt.EqAt.int_int a t b u prog w E Q h
theorem Ob:∀ {ns ms:List Int} {us ws:List Yy} {i:Nat},ads us ns->ads ws ms->fin=decide (ns.length<ms.length)->Q (HT.lexLt ns ms) s->PySem.W.KatLex prog w A b fin Q (us.zip ws) i s:=by
 intro ns
 induction ns with
 | nil =>
  intro ms us ws i r q e h;cases r;cases q with
  | nil=>subst e;exact h
  | cons=>subst e;exact h
 | cons n ns ih =>
  intro ms us ws i r q e h;cases r with
  | cons _ t r =>
   cases q with
   | nil=>subst e;exact h
   | cons m t' q =>
    rw[List.zip_cons_cons];refine PySem.W.kat_cons (Oa (PySem.W.kat_go (λhh=>PySem.W.kat_yes ?_) λhh=>PySem.W.kat_no ?_))
    .have e1:n=m:=by simpa using hh
     subst e1;rw[HT.nU,if_pos rfl] at h;exact ih r q (by subst e;simp) h
    .have e1:n≠m:=by simpa using hh
     rw[HT.nU,if_neg e1] at h;cases (b && i == 0) with
     | true=>exact oneLt_int h
     | false=>exact PySem.W.kat_one _ _ (lt_int h)
end
def Er(sp:Sp):List V->List V->Hp->(List V->Hp->Prop)->Prop
 | [],ks,H,Q=>Q ks H
 | x::r,ks,H,Q=>sp [x] H (λk H1=>Er sp r (ks++[k]) H1 Q) E0
def gT(K:Yp)(H:Hp):List V->List (List Int)->Prop
 | [],[]=>True
 | k::ks,n::ns=>(∃ p,k = .ref p/\ah K H p (n.map V.int)/\n≠[])/\gT K H ks ns
 | _,_=>False
theorem gT.len{K:Yp}{H:Hp}:∀ {ks:List V} {ns:List (List Int)},gT K H ks ns->ks.length=ns.length
 | [],[],_=>rfl
 | _::_,_::_,h=>by simp[gT.len h.2]
 | [],_::_,h=>h.elim
 | _::_,[],h=>h.elim
theorem gT.get{K:Yp}{H:Hp}:∀ {ks:List V} {ns:List (List Int)} {i:Nat} {k:V},gT K H ks ns->ks[i]?=some k->∃ p,k = .ref p/\ah K H p ((ns.getD i []).map V.int)
 | [],[],_,_,_,e=>by simp at e
 | k::_,n::_,0,_,h,e=>by simp at e;subst e;obtain⟨⟨p,a,b,_⟩,_⟩:=h;exact⟨p,a,b⟩
 | _::_,_::_,i+1,_,h,e=>by have:=gT.get (i:=i) h.2 (by simpa using e);simpa using this
 | [],_::_,_,_,h,_=>h.elim
 | _::_,[],_,_,h,_=>h.elim
section
noncomputable def cG(kis:List (List Int))(i j:Nat):Bool:=HT.lexLt (kis.getD i []) (kis.getD j [])
theorem mK(kis:List (List Int)):Ord (cG kis):=⟨λh=>Em h,λh1 h2=>Eo h1 h2⟩
noncomputable def dq{α:Type}(kis:List (List Int))(d:α)(as:List α):List α:=(cy (cG kis) as.length).toList.map λi=>as.getD i d
theorem ox:(dq kis d as).Perm as:=by
 have h:=(ou (n:=as.length) (mK kis)).1;have q:=h.map (λi=>as.getD i d);have self:(YZ as.length).map (λi=>as.getD i d)=as:=by
  apply adG
  .simp
  .intro i h1 h2;simp[Yr,h2]
 rw[self] at q;exact q
theorem Es:(dq kis d as).length=as.length:=ox.length_eq
theorem Oc(hk:kis=as.map f):(dq kis d as).Pairwise (λa b=>HT.lexLt (f b) (f a)=false):=by
 obtain⟨hp,hs⟩:=ou (n:=as.length) (mK kis);have sz:=hp.size;unfold dq;rw[adh];refine acX.mpr λi j hi hj gu=>?_;have cv:i<(cy (cG kis) as.length).size:=by simpa using hi
 have x9:j<(cy (cG kis) as.length).size:=by simpa using hj
 have q:=hs i j (by lia) (by lia);have e1:(cy (cG kis) as.length).getD i 0=(cy (cG kis) as.length)[i]:=by simp[agb,cv]
 have e2:(cy (cG kis) as.length).getD j 0=(cy (cG kis) as.length)[j]:=by simp[agb,x9]
 have l1:=b8.below hp (i:=i) (by lia);have l2:=b8.below hp (i:=j) (by lia);rw[e1,e2] at q;rw[e1] at l1;rw[e2] at l2;have q2:HT.lexLt (kis.getD (cy (cG kis) as.length)[j] []) (kis.getD (cy (cG kis) as.length)[i] [])=false:=q;have g:∀ k,k<as.length->kis.getD k []=f (as.getD k d):=λk gU=>by subst hk;simp[Yr,gU]
 simp only[Array.getElem_toList];rw[g _ l1,g _ l2] at q2;exact q2
theorem Od(r:Vals xs vs):Vals (dq kis .non xs) ((cy (cG kis) xs.length).toList.map λi=>vs.getD i Value.none):=by
 have hp:=(ou (n:=xs.length) (mK kis)).1;have gen:∀ l:List Nat,(∀ i∈l,i<xs.length)->Vals (l.map λi=>xs.getD i .non) (l.map λi=>vs.getD i Value.none):=by
  intro l
  induction l with
  | nil=>intro _;exact .nil
  | cons i l ih =>
   intro h;have hi:=h i (.head _);refine .cons ?_ (ih λj hj=>h j (.tail _ hj));have e:xs[i]?=some xs[i]:=Ys hi;obtain⟨u,eu,ru⟩:=r.get e;show RelV (xs.getD i .non) (vs.getD i Value.none);rw[Yr,Yr,eu,e];exact ru
 exact gen _ λi hi=>by simpa using hp.mem_iff.mp hi
def Oe(K:Yp)(sp:Sp)(x:V)(H1:Hp)(Q:VK):Prop:=∃ (a:YC) (xs:List V),x = .ref a/\ai K H1 a xs/\xs.length<64/\Er sp xs [] H1 λks H2=>∃ kis,gT K H2 ks kis/\∀ l,H2 l=none->Q (.ref l) (upd H2 l (.lst (dq kis .non xs)))
def Of(K:Yp)(sp:Sp)(te:TE):TE:=λσ H Q=>te σ H λx H1=>Oe K sp x H1 Q
end
abbrev En:=Option Int
noncomputable def ev:En->V
 | none=>.non
 | some i=>.int i
theorem uE:ev none = .non:=rfl
theorem uF(i:Int):ev (some i) = .int i:=rfl
noncomputable def aW:En->En->Bool
 | some x,some y=>decide (y<x)
 | _,_=>false
def aK(H:Hp)(v:V)(a b:En):Prop:=∃ p,v = .ref p/\H p=some (.tup [ev a,ev b])
theorem aK.same(h:aK H v a b)(s:aj H H1):aK H1 v a b:=by obtain⟨p,e,h⟩:=h;exact⟨p,e,s _ _ h⟩
theorem aK.new:aK (upd H p (.tup [ev a,ev b])) (.ref p) a b:=⟨p,rfl,ax⟩
noncomputable def hold(a b:En)(n:Int):Bool:=!aW a (some n) && !aW (some n) b
theorem uG:hold a b n=true↔(∀ x,a=some x->x<=n)/\(∀ y,b=some y->n<=y):=by unfold hold;rcases a with _|x<;>rcases b with _|y<;>simp[aW]
noncomputable def dt:En->En->En
 | some x,some y=>some (if y > x then y else x)
 | some x,none=>some x
 | none,b=>b
noncomputable def dw:En->En->En
 | some x,some y=>some (if y<x then y else x)
 | some x,none=>some x
 | none,b=>b
noncomputable def nums(a b:En):List Int:=[a,b].filterMap id
noncomputable def qF(v:V):Bool:=!decide (v = .non)
theorem Og(a b:En):([ev a,ev b].filter qF).map (λv=>v)=(nums a b).map V.int:=by rcases a with _|x<;>rcases b with _|y<;>simp[ev,nums,qF]
theorem Oh(a b:En):mH lr (nums a b) .non=ev (dt a b):=by rcases a with _|x<;>rcases b with _|y<;>simp[nums,dt,lr,mH,ev]
theorem Oi(a b:En):mH oh (nums a b) .non=ev (dw a b):=by rcases a with _|x<;>rcases b with _|y<;>simp[nums,dw,oh,mH,ev]
def Et(H:Hp)(v:V)(lo hi:En):Prop:=(aW lo hi=true->v = .non)/\(aW lo hi=false->aK H v lo hi)
theorem Eu{K:Yp}{H:Hp}{p:YC}{a b:En}{Q:VK}{tt:TT}{te:TE}(hp:H p=some (.tup [ev a,ev b]))(ht:∀ x H Q,Q (qF x) H->tt [some x] H Q)(he:∀ x H Q,Q x H->te [some x] H Q)
 (q:∀ l,H l=none->Q (.ref l) (upd H l (.lst ((nums a b).map V.int)))):ko (p8 K p) [] tt te H Q:=by
 refine cF (xs:=[ev a,ev b]) DM a7 (ur (p:=qF) (f:=λv=>v) (ah.of hp) (λx _ Q h=>ht x H Q h) (λx _ _ Q h=>he x H Q h) ?_);rw[Y0,Og];exact q
end Gz
namespace Gz
open L2
abbrev S2:=En × En
noncomputable def hs(s:S2)(n:Int):Bool:=hold s.1 s.2 n
def Ew(s:S2):Prop:=aW s.1 s.2=false
theorem Oj:hs s n=true↔(∀ x,s.1=some x->x<=n)/\(∀ y,s.2=some y->n<=y):=uG
open PySem in
def lz(H:Hp):List V->List S2->Prop
 | [],[]=>True
 | v::vs,s::ss=>aK H v s.1 s.2/\lz H vs ss
 | _,_=>False
section
theorem aK.put(h:aK H v a b)(hl:H l=some (.lst ys)):aK (upd H l o) v a b:=by obtain⟨p,e,h⟩:=h;exact⟨p,e,by rw[aD (nI h hl λz=>nomatch z)];exact h⟩
theorem lz.len:∀ {vs:List V} {ss:List S2},lz H vs ss->vs.length=ss.length
 | [],[],_=>rfl
 | _::_,_::_,h=>by simp[lz.len h.2]
 | [],_::_,h=>h.elim
 | _::_,[],h=>h.elim
open PySem
end
end Gz
namespace Gz
open PySem PySem.Spec PyProof.Rows L2
structure Ex(K:Yp)(C:YC)(m:Str)(f:YC):Prop where
 ga:ac9 K (.ref C) "__getattribute__" = some (some (.builtin "type.__getattribute__"))
 rd:afR K C (.type "type")=true
 fd:afS K (.ref C) (.type "type") m=some (.val (.ref f))
 kp:aaa K (.ref f)=true
section
theorem Ol(hg:Gl X x)(hm:X.mg x=some (.ref C))(c:Ex X.K C m f)(F:dX X.prog X.w X.K X.mg X.base CX k f fd ps sp)(hr:bN k X.A)(hb:Binds X.K fd ps ds)(hd:Vals cY ds)(hx:Passes CX X E)(ha:PA X (e::es) t)(fu:(x == ("__debug__" : Str))=false:=by decide)(cn:YQ (e::es) X.env=(false,eval e X.env)::YQ es X.env:=by rfl)(dM:(aap pos (YQ es X.env)).any (·.1)=false:=by rfl)(ht:eval (.Call (.Attribute (.Name x p) m apos) (e::es) [] pos) X.env=(do
 let ov <- eval (.Name x p) X.env
 afB apos.atName
 let (f,first) <- holding [ov] (aeI ov m pl)
 callWith pos f first (aap pos (YQ (e::es) X.env)) (aeK pos (acw [] X.env))):=by rfl) :
 PE X (.Call (.Attribute (.Name x p) m apos) (e::es) [] pos) (qh sp cY E t):=by
 intro pins s σ H Q I h;refine ab8 (pl:=pl) (aB (tP (X:=X) (v:=.ref C) hg hm rfl fu pins s σ H (λv H1=>v = .ref C/\H1=H) I ⟨rfl,rfl⟩) λu s1 zq=>?_) ht;obtain⟨y,H1,I1,rx,e1,e2⟩:=zq;subst e1 e2;obtain rfl:u=YU C:=rx;refine PySem.W.method_cls I1.bY c.ga (PySem.W.cls_value I1.bY c.rd c.fd rfl ?_);have I2:Inv X pins σ H1 { s1 with toks:=s1.toks+1 }:=I1.tok _;refine abO (first:=[]) (h₀:=X.base) I.ok.mod.kin c.kp (aB (ha pos pins _ σ H1 _ I2 h) λus s2 ⟨vs,H2,I3,r,q2⟩=>⟨I3.bY,?_⟩) cn dM;exact t7 (us:=us) (vs:=vs) F hr hb hd hx I3 r q2
end
abbrev W2:=Option S2
def fJ(H:Hp)(v:V):W2->Prop
 | none=>v = .non
 | some s=>aK H v s.1 s.2
theorem fJ.same(h:fJ H v w)(s:aj H H'):fJ H' v w:=by
 cases w with
 | none=>exact h
 | some a=>exact aK.same h s
end Gz
namespace Gz
open PySem L2 PySem.W PySem.Spec PyProof.Rows
def Bt(n:Nat)(x:Int):Prop:=aa0 x<=n
theorem Bt.add(h:Bt n x)(h':Bt n y):Bt (n+1) (x+y):=by
 have:=agw h h'
 rwa [Nat.max_self] at this
theorem Bt.mul(h:Bt n x)(h':Bt m y):Bt (n+m) (x * y):=agx h h'
theorem Bt.up(h:Bt n x)(hm:n<=m):Bt m x:=Yw h hm
theorem Bt.small(h1 : -(2 ^ 64)<x)(h2:x<2 ^ 64):Bt 64 x:=PySem.intBits_le_64 h1 h2
def oy(i j:Int):Prop:=Bt 40000000 i/\Bt 40000000 j
theorem oy.ok(h:oy i j):IntMulOk i j:=af2 h.1 h.2 (by decide)
theorem Oo:aX X (abr .Mult) (rI oy λi j=>.int (i * j)):=tY λ_ _ _ _ _ _ _ hc q=>mul_int q hc.ok
def iP(ns:List Int):Prop:=ns.length<=63/\∀ x∈ns,Bt 1048576 x
theorem weigh:∀ (ns:List Int) (x:Int),x∈ns->aa0 x<=aa2 (ns.map aaS)
 | [],x,h=>by simp at h
 | y::ns,x,h=>by
  have e:aa2 ((y::ns).map aaS)=(if y == 0 then 0 else y.natAbs.log2+1)+1+aa2 (ns.map aaS):=by rw[YV];simp only[aa2,aee]
  rw[e];rcases YK.mp h with rfl|h
  .unfold aa0;lia
  .have:=weigh ns x h;lia
theorem Oq{ns:List Int}(h:agc [PySem.W.WData.list (ns.map aaS)]=true):∀ x∈ns,Bt 1048576 x:=by
 intro x hx;have h1:acb (PySem.W.WData.list (ns.map aaS))=true:=by
  have:(acb (PySem.W.WData.list (ns.map aaS)) && true)=true:=h
  rwa [Bool.and_true] at this
 unfold acb at h1;rw[Z5] at h1;have h2:=of_decide_eq_true h1.2;have h3:=weigh ns x hx;simp only[aee] at h2;unfold Bt;lia
theorem Ot{l:ad2}{k:Nat}{q:Zo}{loose:List Str}{XP:(Str->Option Yy)->aaW->Prop}{YP:ZZ->aaW->Prop}{d:DefRec}{K:Params->Yp}{CX:ZZ->gk}{sp:ZZ->Sp}{x:Str}
 (most:l.most=some 63) (plain:d.params.defaults=[]) (room:bN k afI)
 (Ou:∀ (w:ZZ) (h:aaW),YP w h->(K w.params).In h)
 (F:∀ (w:ZZ) (mg:Str->Option Yy) (fa:YC) (h:aaW),(K w.params).In h->h.Ns YW mg->mg d.name=some (.ref fa) ->
   ∃ fd:abu,(∀ (s:YB) (u:Yy),ae6 s fd ⟨[u],[]⟩ [(x,u)]) /\
    ∀ base:aaW,(K w.params).In base->base.Ns YW mg->dX l.prog w (K w.params) mg base (CX w) k fa fd [x] (sp w))
 (law:∀ (w:ZZ) (H:Hp) (a:YC) (ns:List Int),iP ns->ai (K w.params) H a (ns.map V.int)->sp w [.ref a] H (λv _=>v = .bl true) λ_ _ _=>False)
 (calm:∀ (w:ZZ) (H:Hp) (s:YB) (e:Yy) (s':YB),CX w [] H s (λ_ _ _=>False) e s'->False) :
 agi q loose XP YP l.row.toRowW d [] (λf vs=>PySem.call f vs):=by
 intro w t₀ t mg mb G Y f ob pm cd doc dV kV look data code defs at_ gens args vals as pre lay _ well _;have e1:dV = .none:=Dflts.none defs plain;have e2:kV = .none:=Dflts.noKw defs;cases e1;cases e2;obtain⟨a,vs,ns,e3,e4,obj,are,len⟩:=xi.LZ most pre well;cases e3;cases e4;have KX:=Ou w _ Y;obtain⟨fd,bind,ok⟩:=F w mg f _ KX G.T.g at_;have run:=L9 KX G.T.g G.T.b G.T.builtins G.T.nolimit gens obj are (Yw len (by decide)) room ok bind
  (λH _ S=>law w H a ns ⟨len,Oq lay⟩ S) λH e s'=>calm w H t e s'
 refine enter_call (ab7 run ?_);rintro r s' ⟨rfl,old,os,bare⟩;exact⟨.inl ⟨.bool true,.bool true,[],rfl,λ_=>rfl,.bool true,xi.L8 l _,λ_=>⟨List.Pairwise.nil,λ_ z=>(nomatch z)⟩⟩,old,os,bare⟩
noncomputable def qG(ns:List Int)(k:Int):Int:=if 0<(ns.length:Int) then ns.getD (k % (ns.length:Int)).toNat 0 else 0
theorem Ov(h:iP ns)(k:Int):Bt 1048576 (qG ns k):=by
 unfold qG;split
 .rw[Yr];cases e:ns[(k % (ns.length:Int)).toNat]? with
  | none=>exact (Bt.small (by decide) (by decide)).up (by decide)
  | some n=>exact h.2 _ (YF e)
 .exact (Bt.small (by decide) (by decide)).up (by decide)
theorem Ow{ns:List Int}{k:Int}(h:0<(ns.length:Int)):cC (ns.map V.int) (k % (ns.length:Int))=some (.int (qG ns k)):=by
 have h1:=afT k (show (ns.length:Int)≠0 by lia);have h2:=aeP k h;unfold qG;rw[if_pos h];have ek:k % (ns.length:Int)=(((k % (ns.length:Int)).toNat:Nat):Int):=by lia
 refine (congrArg (cC _) ek).trans (cZ ?_);rw[YG,Yr,Ys (by lia)];rfl
theorem Ey(h:x.natAbs<2 ^ 600):Bd 4000 x:=Bd.up (n:=600) h (by decide)
theorem mL(h:x.natAbs<2 ^ 600)(h':y.natAbs<2 ^ 600):nY x y:=⟨Ey h,Ey h'⟩
theorem aC(I:L2.St->Hp->Prop)(h1:∀ N:L2.St->Hp->Prop,(∀ σ H,I σ H->N σ H)->a { D with nx:=N } σ H)(h2:∀ R:TS,R=b->∀ σ H,I σ H->R D σ H):tS a b D σ H:=h1 _ (h2 _ rfl)
noncomputable def pre(f:P2->Int)(ps:List P2)(i:Nat):Int:=((ps.take i).map f).sum
theorem fK(f:P2->Int)(ps:List P2)(h:i<ps.length):pre f ps (i+1)=pre f ps i+f (aE ps i):=by unfold pre aE;rw[ZI,Z1,afU,Yr,Ys h];simp only[aeQ,YV,acN,aeR,agy,Int.add_zero,abx]
noncomputable def bw(ps:List P2)(i j:Nat):Int:=if i<=j then pre (·.2) ps j-pre (·.2) ps i else pre (·.1) ps j-pre (·.1) ps i
def d8(ps:List P2):Prop:=∀ p∈ps,p.1<=p.2
theorem Ez(h:d8 ps)(i:Nat):∀ n,i+n<=ps.length->pre (·.1) ps (i+n)-pre (·.1) ps i<=pre (·.2) ps (i+n)-pre (·.2) ps i
 | 0,_=>by simp
 | n+1,hn=>by have ih:=Ez h i n (by lia);rw[show i+(n+1)=(i+n)+1 by lia,fK _ ps (by lia),fK _ ps (by lia)];have:=h _ (oq (ps:=ps) (i:=i+n) (by lia));lia
theorem oz(h:d8 ps)(gu:i<=j)(hj:j<=ps.length):pre (·.1) ps j-pre (·.1) ps i<=pre (·.2) ps j-pre (·.2) ps i:=by
 have:=Ez h i (j-i) (by lia)
 rwa [show i+(j-i)=j by lia] at this
theorem Ox(h:d8 ps)(hi:i<=ps.length)(hj:j<=ps.length)(hk:k<=ps.length):bw ps i j<=bw ps i k+bw ps k j:=by have a:=λh'=>oz h (i:=i) (j:=j) h' hj;have b:=λh'=>oz h (i:=j) (j:=i) h' hi;have c:=λh'=>oz h (i:=i) (j:=k) h' hk;have d:=λh'=>oz h (i:=k) (j:=i) h' hi;have e:=λh'=>oz h (i:=j) (j:=k) h' hk;have f:=λh'=>oz h (i:=k) (j:=j) h' hj;unfold bw;split<;>split<;>split<;>lia
noncomputable def part(ps:List P2)(i j k:Nat):Int:=if i<j then pre (·.2) ps (min i j+k)-pre (·.2) ps i else pre (·.1) ps j-pre (·.1) ps (min i j+k)
end Gz
namespace L2
open PySem PySem.Spec PyProof.Rows
section
variable{κ:Type}[DecidableEq κ]
noncomputable def cH(kvs:List (κ × V))(k:κ):Option V:=(kvs.find? λkv=>decide (kv.1=k)).map (·.2)
noncomputable def putK(kvs:List (κ × V))(k:κ)(v:V):List (κ × V) :=
 if (kvs.any λkv=>decide (kv.1=k))=true then kvs.map (λkv=>if kv.1=k then (kv.1,v) else kv) else kvs++[(k,v)]
noncomputable def fL(kvs:List (κ × V))(k:κ):List (κ × V):=kvs.filter λkv=>decide (kv.1≠k)
theorem uH{p:κ × V}{r:List (κ × V)}{k:κ}(e:p.1=k):cH (p::r) k=some p.2:=by simp[cH,Z2,e]
theorem uI{p:κ × V}{r:List (κ × V)}{k:κ}(e:¬ p.1=k):cH (p::r) k=cH r k:=by simp[cH,Z2,e]
theorem EA(k:κ):∀ kvs:List (κ × V),(kvs.any λkv=>decide (kv.1=k))=(cH kvs k).isSome
 | []=>rfl
 | p::r=>by
  rw[ZN];by_cases e:p.1=k
  .simp only[uH e,decide_eq_true e,Bool.true_or,aeS]
  .rw[uI e,decide_eq_false e,agj];exact EA k r
theorem EB(kvs:List (κ × V))(k:κ)(v:V):(putK kvs k v).length<=kvs.length+1:=by
 unfold putK;split
 .rw[Yq];omega
 .rw[YO,Zn,aaR];omega
theorem eU.ya(r:eU o u):o.isSome=u.isSome:=by
 cases o with
 | none=>cases u with
  | none=>rfl
  | some _=>exact (show False from r).elim
 | some _=>cases u with
  | none=>exact (show False from r).elim
  | some _=>rfl
theorem KV.val(r:KV kvs vs)(k:κ):eU (cH kvs k) (aff vs k):=by
 unfold KV at r
 induction r with
 | nil=>exact aaP
 | @cons p q ps qs h t ih =>
  obtain⟨h1,h2⟩:=h;by_cases e:p.1=k
  .have e':q.1=k:=h1.symm.trans e;have b:aff (q::qs) k=some q.2:=by simp[aff,Z2,e']
   rw[uH e,b];exact h2
  .have e':¬ q.1=k:=λz=>e (h1.trans z);have b:aff (q::qs) k=aff qs k:=by simp[aff,Z2,e']
   rw[uI e,b];exact ih
theorem KV.any(r:KV kvs vs)(k:κ):(kvs.any λkv=>decide (kv.1=k))=vs.any λkv=>decide (kv.1=k):=by
 unfold KV at r
 induction r with
 | nil=>rfl
 | cons h t ih=>rw[ZN,ZN,ih,h.1]
theorem KV.oA(r:KV kvs vs)(k:κ)(ry:RelV y u) :
 KV (kvs.map λkv=>if kv.1=k then (kv.1,y) else kv) (vs.map λkv=>if kv.1=k then (kv.1,u) else kv):=by
 unfold KV at r ⊢
 induction r with
 | nil=>exact .nil
 | @cons p q ps qs h t ih =>
  rw[YV,YV];refine .cons ?_ ih;obtain⟨h1,h2⟩:=h;by_cases e:p.1=k
  .rw[if_pos e,if_pos (h1.symm.trans e)];exact⟨h1,ry⟩
  .rw[if_neg e,if_neg (λz=>e (h1.trans z))];exact⟨h1,h2⟩
theorem KV.put(r:KV kvs vs)(k:κ)(ry:RelV y u):KV (putK kvs k y) (stored vs k u):=by
 unfold putK stored;rw[r.any k];by_cases e:(vs.any λkv=>decide (kv.1=k))=true
 .rw[if_pos e,if_pos e];exact r.oA k ry
 .rw[if_neg e,if_neg e];exact Paired.snoc r ⟨rfl,ry⟩
theorem KV.length(r:KV kvs vs):kvs.length=vs.length:=Paired.length r
theorem Oy(kvs:List (κ × V))(k:κ):(fL kvs k).length<=kvs.length:=Y2 _ _
end
theorem uJ(r:RelV (kV k) u):(eo P w).is k u=true:=by
 cases k with
 | inl i=>obtain⟨t,e⟩:=(show ∃ t,u=aaO i t from r);subst e;exact Kw P w i t
 | inr x=>obtain⟨t,e⟩:=(show ∃ t,u=aeB x t from r);subst e;exact Kx P w x t
theorem EC:∀ {ks:List Key} {us:List Yy},Vals (ks.map kV) us->ItemsAre (eo P w) ks us
 | [],_,r=>by rw[acN] at r;cases r;exact .nil
 | k::ks,_,r=>by
  rw[YV] at r;cases r with
  | cons h t=>exact .cons (uJ h) (EC t)
abbrev KT(H:Hp):List (List Key × V)->List (List Key × YC × Yy)->Prop:=agq λp q=>p.1=q.1/\H q.2.1=some (.tup (p.1.map kV))/\RelV p.2 q.2.2
theorem KT.val(r:KT H kvs xs)(k:List Key):eU (cH kvs k) ((aex xs k).map (·.2)):=by
 induction r with
 | nil=>exact aaP
 | @cons p q ps qs h t ih =>
  obtain⟨h1,_,h2⟩:=h;by_cases e:p.1=k
  .have e':q.1=k:=h1.symm.trans e;have b:aex (q::qs) k=some q.2:=by simp[aex,Z2,e']
   rw[uH e,b];exact h2
  .have e':¬ q.1=k:=λz=>e (h1.trans z);have b:aex (q::qs) k=aex qs k:=by simp[aex,Z2,e']
   rw[uI e,b];exact ih
theorem KT.oA(r:KT H kvs xs)(k:List Key)(ry:RelV y u) :
 KT H (kvs.map λkv=>if kv.1=k then (kv.1,y) else kv) (xs.map (putAt k u)):=by
 induction r with
 | nil=>exact .nil
 | @cons p q ps qs h t ih =>
  rw[YV,YV];refine .cons ?_ ih;obtain⟨h1,h2,h3⟩:=h;unfold putAt;by_cases e:p.1=k
  .rw[if_pos e,if_pos (h1.symm.trans e)];exact⟨h1,h2,ry⟩
  .rw[if_neg e,if_neg (λz=>e (h1.trans z))];exact⟨h1,h2,h3⟩
theorem KT.put(r:KT H kvs xs)(k:List Key)(hb:H b=some (.tup (k.map kV)))(ry:RelV y u) :
 KT H (putK kvs k y) (storedH xs k b u):=by
 have e:(kvs.any λkv=>decide (kv.1=k))=(aex xs k).isSome:=by rw[EA,(r.val k).ya,afg]
 unfold putK storedH;rw[e];by_cases q:(aex xs k).isSome=true
 .rw[if_pos q,if_pos q];exact r.oA k ry
 .rw[if_neg q,if_neg q];exact Paired.snoc r ⟨rfl,hb,ry⟩
theorem KT.keeps(r:KT H kvs xs)(ht:∀ b ys,H b=some (.tup ys)->H' b=some (.tup ys)):KT H' kvs xs :=
 Paired.wx r λ_ _ z=>⟨z.1,ht _ _ z.2.1,z.2.2⟩
section
theorem ED(ok:bK P w H h)(e:Rd H a u):br P w H h a u:=e.ok ok
theorem qH(ok:bK P w H h)(e:Rd H a (.dK kvs)):kvs.length<=YR/\(a == Z8)=false/\∃ vs,KV kvs vs/\h.DictOf (eo P w) a vs :=
 show br P w H h a (.dK kvs) from ED ok e
theorem Oz(ok:bK P w H h)(e:H a=some (.dK kvs)):kvs.length<=YR/\(a == Z8)=false/\∃ vs,KV kvs vs/\h.DictOf (eo P w) a vs:=qH ok (.inl e)
theorem qI(ok:bK P w H h)(e:H a=some (.tup (ks.map kV))):(ac5 (eo P w)).is h ks a:=by
 obtain⟨_,ao,r,o,h1,h2,n,h3⟩:=(show br P w H h a (.tup (ks.map kV)) from ok a _ e)
 exact⟨o,ao.toArray,n,h1,h2,h3,by simpa using EC r⟩
theorem qJ(ok:bK P w H h)(e:Rd H a (.dT kvs)):kvs.length<=YR/\(a == Z8)=false /\
 ∃ xs,KT H kvs xs/\h.DictOfH (ac5 (eo P w)) a xs:=by
 obtain⟨z,y,xs,r,o,es,ep,h1,h2,h3,h4,h5⟩:=(show br P w H h a (.dT kvs) from ED ok e)
 refine⟨z,y,xs,r,o,es,ep,h1,h2,h3,h4,λx hx=>?_,h5⟩;have all:∀ {l:List (List Key × V)} {m:List (List Key × YC × Yy)},KT H l m->∀ x∈m,(ac5 (eo P w)).is h x.1 x.2.1:=by
  intro l m q
  induction q with
  | nil=>intro x hx;exact nomatch hx
  | @cons p q ps qs hq t ih =>
   intro x hx;rcases YK.mp hx with e|hx
   .subst e;exact qI ok (by rw[<- hq.1];exact hq.2.1)
   .exact ih x hx
 exact all r x hx
theorem uK(ok:bK P w H h)(e:H a=some (.dT kvs)):kvs.length<=YR/\(a == Z8)=false /\
 ∃ xs,KT H kvs xs/\h.DictOfH (ac5 (eo P w)) a xs:=qJ ok (.inl e)
end
def eL(H:Hp)(a:YC)(y:V)(r:Option V):Prop :=
 (∃ kvs k,Rd H a (.dK kvs)/\y=kV k/\r=cH kvs k) ∨ ∃ kvs k b,Rd H a (.dT kvs)/\y = .ref b/\H b=some (.tup (k.map kV))/\r=cH kvs k
def oB(H:Hp)(a:YC)(y v:V)(H':Hp):Prop :=
 (∃ kvs k,H a=some (.dK kvs)/\y=kV k/\kvs.length<YR/\H'=upd H a (.dK (putK kvs k v))) ∨
 ∃ kvs k b,H a=some (.dT kvs)/\y = .ref b/\H b=some (.tup (k.map kV))/\kvs.length<YR/\H'=upd H a (.dT (putK kvs k v))
theorem eL.t(e:H a=some (.dT kvs))(eb:H b=some (.tup (k.map kV))):eL H a (.ref b) (cH kvs k):=.inr ⟨kvs,k,b,.inl e,rfl,eb,rfl⟩
theorem oB.t(e:H a=some (.dT kvs))(eb:H b=some (.tup (k.map kV)))(hl:kvs.length<YR) :
 oB H a (.ref b) v (upd H a (.dT (putK kvs k v))):=.inr ⟨kvs,k,b,e,rfl,eb,hl,rfl⟩
section
theorem OA(hu:A.units+1<acv)(I:Inv X pins σ H s)(g:eL H a y (some v))(ry:RelV y u)(h:∀ w' s',Inv X pins σ H s'->RelV v w'->Q w' s') :
 YL (model X.prog X.w) A (afE (.ref a) u) Q E s:=by
 rcases g with ⟨kvs,k,e,ey,l⟩|⟨kvs,k,b,e,ey,eb,l⟩
 .subst ey;obtain⟨z,hd,vs,rel,dd⟩:=qH I.ay e;obtain⟨w',hw,iA⟩:=eU.some_of (v:=v) (o:=aff vs k) (by rw[l];exact rel.val k);exact wpAny_getItem_of (uJ ry) dd.mapOf hw (h w' _ (I.tok _) iA)
 .subst ey;cases (show u=YU b from ry);obtain⟨z,hd,xs,rel,dd⟩:=qJ I.ay e;obtain⟨w',hw,iA⟩:=eU.some_of (v:=v) (o:=(aex xs k).map (·.2)) (by rw[l];exact rel.val k);obtain⟨p,hp,fM⟩:=Y6.mp hw;refine wpAny_getItem_heap (aaJ hu) (qI I.ay eb) dd hp ?_;rw[fM];exact h w' _ (I.tok _) iA
theorem OB(hu:A.units+1<acv)(I:Inv X pins σ H s)(g:eL H a y o)(ry:RelV y u)(h:∀ s',Inv X pins σ H s'->Q (.bool (!o.isSome)) s') :
 YL (model X.prog X.w) A (Zw .NotIn u (.ref a)) Q E s:=by
 rcases g with ⟨kvs,k,e,ey,l⟩|⟨kvs,k,b,e,ey,eb,l⟩
 .subst ey;obtain⟨z,hd,vs,rel,dd⟩:=qH I.ay e;refine wpAny_notIn_of (uJ ry) hd dd.mapOf ?_;rw[<- (rel.val k).ya,<- l];exact h _ (I.tok _)
 .subst ey;cases (show u=YU b from ry);obtain⟨z,hd,xs,rel,dd⟩:=qJ I.ay e;refine wpAny_notIn_heap (aaJ hu) (qI I.ay eb) hd dd ?_;have q:=(rel.val k).ya;rw[afg] at q;rw[<- q,<- l];exact h _ (I.tok _)
theorem yb(I:Inv X pins σ H s)(mu:pO (H a))(hs:Heap.SameBut a s.heap h')(he:∃ q,h'.get? a=some q)(new:br X.prog X.w (upd H a ob) h' a ob) :
 Inv X pins σ (upd H a ob) { s with heap:=h',toks:=t' } :=
 I.write (x:=a) (e:=a) mu (.inl rfl) (λb q hb z=>(hs.2 b hb).trans z) he new
theorem EE(z:kvs.length<=YR)(hd:(a == Z8)=false)(rel:KV kvs vs)(dd:h'.DictOf (eo P w) a vs) :
 br P w H' h' a (.dK kvs):=⟨z,hd,vs,rel,dd⟩
theorem OC(hu:A.units+1<acv)(I:Inv X pins σ H s)(g:oB H a y v H')(ry:RelV y u)(rv:RelV v r)(h:∀ s',Inv X pins σ H' s'->Q () s') :
 YL (model X.prog X.w) A (setItem (.ref a) u r) Q E s:=by
 rcases g with ⟨kvs,k,e,ey,l,eH⟩|⟨kvs,k,b,e,ey,eb,l,eH⟩
 .subst ey eH;obtain⟨z,hd,vs,rel,dd⟩:=Oz I.ay e;have hz:vs.length<=YR:=by rw[<- rel.length];exact z
  have hl:(putK kvs k v).length<=YR:=by have:=EB kvs k v;omega
  refine wpAny_setItem_pairs (hsz:=hz) (uJ ry) dd λh' mM hs=>h _ ?_;have he:∃ q,h'.get? a=some q:=let ⟨q,_,_,hq,_⟩:=mM;⟨q,hq⟩;exact yb I (by rw[e];exact aaP) hs he (EE hl hd (rel.put k rv) mM)
 .subst ey eH;cases (show u=YU b from ry);obtain⟨z,hd,xs,rel,dd⟩:=uK I.ay e;have hz:xs.length<=YR:=by rw[<- Paired.length rel];exact z
  have hl:(putK kvs k v).length<=YR:=by have:=EB kvs k v;omega
  refine wpAny_setItem_heap (hsz:=hz) (aaJ hu) (qI I.ay eb) dd λh' mM hs=>h _ ?_;obtain⟨q,es,ep,hq,h2,h3,h4,_,h5⟩:=mM;refine yb I (by rw[e];exact aaP) hs ⟨q,hq⟩ ⟨hl,hd,_,(rel.put k eb rv).keeps λc ys ec=>?_,q,es,ep,hq,h2,h3,h4,h5⟩;rw[aD (nI ec e (λz=>nomatch z))];exact ec
end
def yc(i:acg):Prop:=∀ ov iv,subscripted i false ov iv=operate [ov,iv] (afE ov iv)
theorem OD{prog:Zo}{w:ZZ}{A:aac}{E:Yy->YB->Prop}{s:YB}{env:Env}{value slice:acg}{pos:Pos}{T id:String}{Q:Yy->YB->Prop}
 (hl:ae8 (.type T) "__getitem__" = pure (some (.builtin id))) (hs:yc slice)
 (h:YL (model prog w) A (eval value env) (λo s₁=>YL (model prog w) A (eval slice env) (λi s₂=>s₂.TypeIs o T/\YL (model prog w) A (afE o i) Q E s₂) E s₁) E s) :
 YL (model prog w) A (eval (.Subscript value slice pos) env) Q E s:=by
 refine ae9 (ZD h (λo s₁ h₁=>ZD h₁ (λi s₂ h₂=>?_) λ_ _ x=>x) λ_ _ x=>x);obtain⟨hT,h₂⟩:=h₂;unfold adt;refine Yo ?_;rw[getitemInPython_of_ne hT.not_modules];refine Yo (acC hT hl ?_);have fin:YL (model prog w) A (subscripted slice false o i) (λr s₃=>YL (model prog w) A (letTemporaryGo value o r >>= λ_=>pure r) Q E s₃) E s₂:=by rw[hs o i];exact wpAny_operating (ZD h₂ (λr s₃ h₃=>Yo (wpAny_letTemporaryGo (Yu h₃))) λ_ _ x=>x)
 first
  | exact Yu (Yo fin)
  | exact Yo (Yu (Yo fin))
  | exact Yo fin
theorem OE(I:Inv X pins σ H s)(g:eL H a y o):s.TypeIs (.ref a) "dict" := by
 rcases g with ⟨kvs,k,e,_,_⟩|⟨kvs,k,b,e,_,_,_⟩
 .obtain⟨_,_,vs,_,dd⟩:=qH I.ay e;exact dd.typeIs
 .obtain⟨_,_,xs,_,dd⟩:=qJ I.ay e;exact dd.typeIs
def yd(td ty:TE):TE:=λσ H Q=>td σ H λx H1=>ty σ H1 λy H2=>∃ a v,x = .ref a/\eL H2 a y (some v)/\Q v H2
def OF(ty td:TE):TE:=λσ H Q=>ty σ H λy H1=>td σ H1 λx H2=>∃ a o,x = .ref a/\eL H2 a y o/\Q (.bl o.isSome) H2
def EF(ty td:TE):TE:=λσ H Q=>ty σ H λy H1=>td σ H1 λx H2=>∃ a o,x = .ref a/\eL H2 a y o/\Q (.bl (!o.isSome)) H2
def EG(td ty tv:TE):TS:=λD σ H=>tv σ H λv H1=>td σ H1 λx H2=>ty σ H2 λy H3=>∃ a H4,x = .ref a/\oB H3 a y v H4/\D.nx σ H4
section
theorem uL(hu:X.A.units+1<acv)(ho:PE X o td)(hi:PE X i ty)(hs:yc i):PE X (.Subscript o i pos) (yd td ty):=by intro pins s σ H Q I h;refine OD PySem.F.slot_dict_getitem.lookup hs (aB (ho pins s σ H _ I h) λu s1 ⟨x,H1,I1,rx,q1⟩=>aB (hi pins s1 σ H1 _ I1 q1) λiv s2 zq=>?_);obtain⟨y,H2,I2,ry,a,v,ex,g,q2⟩:=zq;subst ex;obtain rfl:u=YU a:=rx;exact⟨OE I2 g,OA hu I2 g ry λw' s3 I3 iA=>⟨v,H2,I3,iA,q2⟩⟩
theorem EH(hu:X.A.units+1<acv)(hi:PE X i ty)(ho:PE X o td):PC X .NotIn i o (EF ty td):=by
 intro pins s σ H Q I h;refine aB (hi pins s σ H _ I h) λiv s1 ⟨y,H1,I1,ry,q1⟩=>aB (ho pins s1 σ H1 _ I1 q1) λu s2 zq=>?_;obtain⟨x,H2,I2,rx,a,ov,ex,g,q2⟩:=zq;subst ex;obtain rfl:u=YU a:=rx;exact OB hu I2 g ry λs3 I3=>⟨.bl (!ov.isSome),H2,I3,rfl,q2⟩
theorem EI(hu:X.A.units+1<acv)(ho:PE X o td)(hi:PE X i ty)(hv:PE X value tv)(hs:acr value (some (.Subscript o i pos')) pos.line X.env=pure false) :
 PS X (.Assign [.Subscript o i pos'] value pos) (EG td ty tv):=by
 intro pins s σ H D I h;refine wpAny_Assign_Subscript (aB (hv pins s σ H _ I h) λr s1 ⟨v,H1,I1,rv,q1⟩=>aB (ho pins s1 σ H1 _ I1 q1) λu s2 ⟨x,H2,I2,rx,q2⟩=>aB (hi pins s2 σ H2 _ I2 q2) λiv s3 zq=>?_) hs;obtain⟨y,H3,I3,ry,a,H4,ex,g,q3⟩:=zq;subst ex;obtain rfl:u=YU a:=rx;exact OC hu I3 g ry rv λs4 I4=>⟨σ,H4,I4,q3⟩
end
structure M1(X:Cx)(o:acg)(m:Str)(apos:Pos)(e:acg)(cM:Pos):Prop where
 base:abN o m X.env (eval o X.env)=eval o X.env
 few:((aap cM (YQ [e] X.env)).all (λx=>!x.1) && (aeK cM (acw [] X.env)).all (λx=>x.1.isSome)
  && decide (([e]:List acg).length+([]:List afH).length+(if ([]:List afH).isEmpty then 0 else 1)<30))=true
 line:(apos.endLine == cM.line)=true
 trees:aap cM (YQ [e] X.env)=[(false,eval e X.env)]
structure M2(X:Cx)(o:acg)(m:Str)(apos:Pos)(e f:acg)(cM:Pos):Prop where
 base:abN o m X.env (eval o X.env)=eval o X.env
 few:((aap cM (YQ [e,f] X.env)).all (λx=>!x.1) && (aeK cM (acw [] X.env)).all (λx=>x.1.isSome)
  && decide (([e,f]:List acg).length+([]:List afH).length+(if ([]:List afH).isEmpty then 0 else 1)<30))=true
 line:(apos.endLine == cM.line)=true
 trees:aap cM (YQ [e,f] X.env)=[(false,eval e X.env),(false,eval f X.env)]
def EJ(H:Hp)(a:YC):Prop:=(∃ kvs,Rd H a (.dK kvs)) ∨ ∃ kvs,Rd H a (.dT kvs)
theorem OG(I:Inv X pins σ H s)(d:EJ H a) :
 s.TypeIs (.ref a) "dict" /\ (∀ b,YU a = .ref b->∃ ob,s.heap.get? b=some ob/\ob.dict=none)/\(a == Z8)=false:=by
 rcases d with ⟨kvs,e⟩|⟨kvs,e⟩
 .obtain⟨_,hd,vs,_,dd⟩:=qH I.ay e;refine⟨dd.typeIs,λb q=>?_,hd⟩;cases q;obtain⟨ob,_,_,h1,h2,_⟩:=dd;exact⟨ob,h1,h2.2.1⟩
 .obtain⟨_,hd,xs,_,dd⟩:=qJ I.ay e;refine⟨dd.typeIs,λb q=>?_,hd⟩;cases q;obtain⟨ob,_,_,h1,h2,_⟩:=dd;exact⟨ob,h1,h2.2.1⟩
section
end
section
variable{κ:Type}[DecidableEq κ]
theorem EK:∀ {l:List κ} {k:κ},l.Nodup->¬ k∈l->(l++[k]).Nodup
 | [],k,_,_=>by simp
 | a::r,k,h,hk=>by
  obtain⟨h1,h2⟩:=ZC.mp h;show (a::(r++[k])).Nodup;refine ZC.mpr ⟨λm=>?_,EK h2 λm=>hk (YK.mpr (afn m))⟩;rcases Y3.mp m with q|q
  .exact h1 q
  .exact hk (YK.mpr (aca (Zc.mp q).symm))
end
end L2
namespace Gz
open PySem PySem.Spec PyProof.Rows L2
def bits(bs:List Int):Prop:=∀ x∈bs,x=0∨x=1
theorem OH(hx:H x=none)(hd:H dx=none)(hn:dx≠x):aj H (upd (upd H dx (.own x)) x (.ins C dx fs)) :=
 (au hd).trans (au (by rw[aD (Zj hn)];exact hx))
abbrev Lk:=Option (List Int)
def OI(xs:List YC)(H:Hp)(v:V):Lk->Prop
 | none=>v = .non
 | some bs=>∃ l,v = .ref l/\l∉xs/\H l=some (.lst (bs.map V.int))
abbrev IsL:=OI []
local macro_rules | `(tactic| walk_at "o") => `(tactic| ((try simp only [PySem.Addr] at *); lia))
section
variable{κ:Type}[DecidableEq κ]
noncomputable def fz(xs:List (κ × YC × Yy))(k:κ):List (κ × YC × Yy):=xs.filter λx=>decide (x.1≠k)
theorem OJ{xs:List (κ × YC × Yy)}{k:κ}(h:k∉xs.map (·.1)):fz xs k=xs:=by unfold fz;rw[aay];intro x hx;rw[decide_eq_true_eq];exact λz=>h (YI.mpr ⟨x,hx,z⟩)
theorem EL:∀ {xs:List (κ × YC × Yy)} {k:κ} {j:Nat} {p:YC × Yy},(xs.map (·.1)).Nodup->xs[j]?=some (k,p)->xs.eraseIdx j=fz xs k
 | [],_,_,_,_,h=>by simp at h
 | x::r,k,0,p,hn,h=>by
  rw[YV,ZC] at hn;simp at h;subst h;have e:fz ((k,p)::r) k=fz r k:=by unfold fz;rw[Za,if_neg (by simp)]
  rw[e,OJ hn.1];rfl
 | x::r,k,j+1,p,hn,h=>by
  rw[YV,ZC] at hn;rw[aal] at h;have ne:¬ x.1=k:=λz=>hn.1 (z ▸ YI.mpr ⟨_,YF h,rfl⟩);have e:fz (x::r) k=x::fz r k:=by unfold fz;rw[Za,if_pos (by simpa using ne)]
  rw[e,ady,EL hn.2 h]
theorem EM(f:α->β):∀ (l:List α) (j:Nat),(l.map f).eraseIdx j=(l.eraseIdx j).map f
 | [],_=>rfl
 | _::_,0=>rfl
 | x::l,j+1=>by rw[YV,ady,EM f l j];rfl
theorem OL{xs:List (κ × YC × Yy)}{k:κ}(hn:(xs.map (·.1)).Nodup):((fz xs k).map (·.1)).Nodup:=hn.sublist ((abE).map _)
end
theorem EN{prog:Zo}{w:ZZ}{K:Type}[DecidableEq K]{knd:HeapKind prog w K}{es:Array aa3}{xs:List (K × YC × Yy)}{k:K}(he:es.toList=xs.map (ae0 knd))(h:es.isEmpty=true):aex xs k=none:=by
 have e:es.size=0:=by simpa using h
 have l:=abe he;have:xs=[]:=aao.mp (by lia);rw[this];rfl
theorem KT.out(r:KT H kvs xs)(k:List Key):KT H (fL kvs k) (fz xs k):=by
 unfold fL fz
 induction r with
 | nil=>exact .nil
 | @cons p q ps qs h t ih =>
  rw[Za,Za];by_cases e:p.1=k
  .rw[if_neg (by simp[e]),if_neg (by simp[h.1.symm.trans e])];exact ih
  .rw[if_pos (by simp[e]),if_pos (by rw[decide_eq_true_eq];exact λz=>e (h.1.trans z))];exact .cons h ih
section
variable{prog:Zo}{w:ZZ}{K:Type}[DecidableEq K]{knd:HeapKind prog w K}{A:aac}{E:Yy->YB->Prop}{s:YB}
theorem EO(hu:knd.room A)(gj:knd.is s.heap k a)(hm:s.heap.DictOfH knd d xs)(hsz:xs.length<=YR)(h0:aex xs k=none->Q none { s with toks:=s.toks+knd.draws k })(h1:∀ p e,aex xs k=some p->e.val=p.2->∀ h',h'.DictOfH knd d (fz xs k)->Heap.SameBut d s.heap h'->Q (some e) { s with heap:=h',toks:=s.toks+knd.draws k }):YL (model prog w) A (Builtin.Dict.takeOut d (.ref a)) Q E s:=by
 obtain⟨o,es,ep,ho,hc,hd,he,his,hn⟩:=hm;have ye:es.size<=YR:=by have e:=abe he;lia
 unfold Builtin.Dict.takeOut
 try with_reducible refine ZL ?_
 refine Yo (knd.pyHash hu gj ?_);refine Yo (wpAny_dictFind_heap (s:={ s with toks:=s.toks+knd.draws k }) hu gj ho hd he his hn (λbh=>?_) λj p hj=>?_)
 .exact Yu (h0 (atKey_none_of_get bh))
 .refine Yo (aat (s:={ s with toks:=s.toks+knd.draws k }) ho hd ?_);have ej:=entry_at he j;rw[hj] at ej;rw[ej];refine Yo (wpAny_updateDictKeys (hz:=ye) (s:={ s with toks:=s.toks+knd.draws k }) ho hd (Yu (h1 p (ae0 knd (k,p)) (atKey_of_get hn hj) rfl _ ⟨_,_,ep+1,Ze _ ho (Obj.isFreed_of_dict (aef hd _)),hc.mapDictKeys _,aef hd _,?_,?_,OL hn⟩ (ZA ..))))
  .rw[<- EL hn hj];have lt:j<es.size:=by rw[abe he];exact (Yx.mp hj).1
   rw[Array.eraseIdxIfInBounds,dif_pos lt,Array.toList_eraseIdx,he,EM]
  .exact λx hx=>knd.keeps (his x (Y4.mp hx).1) ho hd (ZA ..)
theorem OM(hu:knd.room A.in1)(gj:knd.is s.heap k a)(hd:(d == Z8)=false)(hm:s.heap.DictOfH knd d xs)(hsz:xs.length<=YR)(ER:more=[] ∨ ∃ x,more=[x])(h1:∀ p,aex xs k=some p->∀ h' tk,h'.DictOfH knd d (fz xs k)->Heap.SameBut d s.heap h'->Q p.2 { s with heap:=h',toks:=tk })(h0:aex xs k=none->∃ x,more=[x]/\∀ tk,Q x { s with toks:=tk }):YL (model prog w) A (call (.builtin "dict.pop") (.ref d :: .ref a::more)) Q E s:=by
 have ha:adE "dict.pop" ⟨.ref d :: .ref a::more,[]⟩:=by
  rcases ER with q|⟨x,q⟩
  .subst q;exact PySem.F.args_dict_pop_2 _ _
  .subst q;exact PySem.F.args_dict_pop_3 _ _ _
 have g:MeetsIn prog w (aak.«dict.pop» ⟨.ref d :: .ref a::more,[]⟩) (λA R s=>knd.room A.in1/\knd.is s.heap k a/\s.heap.DictOfH knd d xs/\(∀ p,aex xs k=some p->∀ h' tk,h'.DictOfH knd d (fz xs k)->Heap.SameBut d s.heap h'->R (.ok (.ret p.2)) { s with heap:=h',toks:=tk }) /\
  (aex xs k=none->∃ x,more=[x]/\∀ tk,R (.ok (.ret x)) { s with toks:=tk })):=.of_wp λA R s ⟨hu,gj,hm,h1,h0⟩=>by
  obtain⟨o,es,ep,ho,hc,hda,he,his,hn⟩:=id hm;unfold aak.«dict.pop»;refine Yo ?_;unfold Builtin.Dict.keyAndDefault;refine Yo (ad3 hm.typeIs ?_);rcases ER with rfl|⟨dflt,rfl⟩
  .show YL _ _ (pure (d,YU a,none)) _ _ s;refine Yu ?_;dsimp only;rw[if_neg (show ¬ (keyPart (YU a)).isSome=true from λz=>nomatch z)];refine Yo (aat ho hda (Yo (Yu ?_)));by_cases hemp:es.isEmpty=true
   .rw[if_pos hemp];refine Yo (abJ (Yo (Yu ?_)));rw[if_pos (show (none:Option aa3).isNone=true from rfl)];refine Yo (aaM hd ?_);obtain⟨x,ex,hq⟩:=h0 (EN he hemp);cases ex
   .rw[if_neg hemp];refine Yo (EO hu gj hm hsz (λyf=>?_) λp e hp yg h' dd hs=>?_)
    .rw[if_pos (show (none:Option aa3).isNone=true from rfl)];refine Yo (aaM hd ?_);obtain⟨x,ex,hq⟩:=h0 yf;cases ex
    .rw[if_neg (show ¬ (some e).isNone=true from by simp)];exact Yo (abD (Yu ⟨e.val,rfl,by rw[yg];exact h1 p hp h' _ dd hs⟩))
  .show YL _ _ (pure (d,YU a,some dflt)) _ _ s;refine Yu ?_;dsimp only;rw[if_neg (show ¬ (keyPart (YU a)).isSome=true from λz=>nomatch z)];refine Yo (aat ho hda (Yo (Yu ?_)));by_cases hemp:es.isEmpty=true
   .rw[if_pos hemp];refine Yo (abJ (Yo (Yu ?_)));rw[if_pos (show (none:Option aa3).isNone=true from rfl)];refine Yo (aaM hd ?_);obtain⟨x,ex,hq⟩:=h0 (EN he hemp);cases ex;exact Yo (abJ (Yu ⟨dflt,rfl,hq _⟩))
   .rw[if_neg hemp];refine Yo (EO hu gj hm hsz (λyf=>?_) λp e hp yg h' dd hs=>?_)
    .rw[if_pos (show (none:Option aa3).isNone=true from rfl)];refine Yo (aaM hd ?_);obtain⟨x,ex,hq⟩:=h0 yf;cases ex;exact Yo (abJ (Yu ⟨dflt,rfl,hq _⟩))
    .rw[if_neg (show ¬ (some e).isNone=true from by simp)];exact Yo (abD (Yu ⟨e.val,rfl,by rw[yg];exact h1 p hp h' _ dd hs⟩))
 exact call_meetsIn ad4 hm.typeIs PySem.F.entry_dict_pop ha g ⟨hu,gj,hm,h1,h0⟩
end
def fN(h:aaW)(d:YC)(es:Array aa3)(ep:Nat):Prop:=∃ o,h.get? d=some o/\o.ExactDict/\o.data = .dict es ep
theorem fN.at(x:fN h d es ep)(e:∀ o,h.get? d=some o->h'.get? d=some o):fN h' d es ep:=let ⟨o,ho,r⟩:=x;⟨o,e o ho,r⟩
theorem fN.lt(x:fN h d es ep):d<h.objs.size:=let ⟨_,ho,_⟩:=x;Yv ho
theorem fN.ty{s:YB}{d:YC}{es:Array aa3}{ep:Nat}(x:fN s.heap d es ep):s.TypeIs (.ref d) "dict" := let ⟨o,ho,hc,_⟩:=x;⟨o,ho,hc.1⟩
section
variable{prog:Zo}{w:ZZ}{A:aac}{E:Yy->YB->Prop}{s:YB}{d it:YC}{es:Array aa3}{i ep:Nat}
theorem ES(lo:(d == Z8)=false)(x:fN s.heap d es ep)(q:Q (.ref s.heap.objs.size) { s with heap:=s.heap.push { cls:=.type "dict_keyiterator",data:=.fields #[.ref d,.int 0 0,.int es.size 0,.int ep 0] } }):YL (model prog w) A (ags (.ref d)) Q E s:=by have T:=x.ty;obtain⟨o,ho,hc,hq⟩:=x;refine adi T adP (ZJ adP T PySem.F.entry_dict_iter ?_ (PySem.F.args_dict_iter_1 _));unfold aak.«dict.__iter__»;refine Yo ?_;unfold Builtin.Dict.dictSlotNone;refine Yo (ad3 T ?_);refine Yu (a:=YU d) ?_;show YL _ A.in1 (Builtin.Dict.showsAll d >>= _) _ _ s;unfold Builtin.Dict.showsAll;rw[if_neg (by rw[lo];exact YN)];refine Yo (Yu (Yo (aat ho hq (Yo (ad5 ho hq ?_)))));refine Yo (Zu (Yu ⟨_,rfl,"dict_keyiterator",_,⟨_,YA _ rfl,rfl⟩,PySem.F.slot_dict_keyiterator_next.lookup,?_⟩));simpa [abU] using q
theorem ET(hit:s.heap.IsKeyIter it d i es.size ep)(x:fN s.heap d es ep)(hi:i<es.size)(q:∀ h',h'.IsKeyIter it d (i+1) es.size ep->Heap.SameBut it s.heap h'->Q (some es[i].key) { s with heap:=h' }):YL (model prog w) A (aa9 (.ref it)) Q E s:=by
 obtain⟨o,ho,hc,hd⟩:=id hit;obtain⟨od,hod,fq,hdd⟩:=x;have T:=hit.typeIs;unfold aa9;refine Yo (abQ (ZO (name:=ZQ "__next__") T Z0 (ZJ Z0 T abF ?_ (abo _))));refine Yo (Yu (Yo (Yo ?_)))
 first|refine Yo (aah T (Yu (Yo (abp ho hd ?_))))|refine Yo (aaT T (Yu (Yo (abp ho hd ?_))))
 have ow:Builtin.Dict_items.ownsTuple "dict_keyiterator" = false:=by decide
 simp only[ow,YT,if_false];show YL _ A.in1 (if (YU d == Value.none)=true then _ else _) _ _ s;rw[if_neg (show ¬ (YU d == Value.none)=true from YN)];refine Yo (Yu (Yo (aat hod hdd ?_)));rw[if_neg (by simp)];refine Yo (Yu (Yo (ad5 hod hdd ?_)));rw[if_neg (by simp)];refine Yu ?_;simp only[show ¬ (i:Int)<0 by lia,if_false,Zm,Zb hi];refine Yo ?_
 first|refine Yo (aah T (Yu (Yo (acd T ?_))))|refine Yo (aaT T (Yu (Yo (acd T ?_))))
 show YL _ A.in1 (afy (.ref it) 1 (abU ((i:Int)+1)) >>= _) _ _ s;refine Yo (ab5 ho hd (by simp) ?_);have kz:(s.heap.update it (abi (·.setIfInBounds 1 (abU ((i:Int)+1))))).IsKeyIter it d (i+1) es.size ep:=⟨_,Ze _ ho (Obj.isFreed_of_fields (aeT hd _)),(Obj.cls_mapFields ..).trans hc,by rw[aeT hd];simp[abU]⟩
 refine Yo (ZL (Yo (acd (s:={ s with heap:=s.heap.update it (abi (·.setIfInBounds 1 (abU ((i:Int)+1)))) }) kz.typeIs ?_)));show YL _ A.in1 (pure es[i].key) _ _ _;exact Yu (Yu ⟨_,rfl,Yu (q _ kz (ZA ..))⟩)
theorem EU(hh:A.handled=none)(hit:s.heap.IsKeyIter it d es.size es.size ep)(x:fN s.heap d es ep)(q:∀ h',afV it s.heap h'->Q none { s with heap:=h' }):YL (model prog w) A (aa9 (.ref it)) Q E s:=by
 obtain⟨o,ho,hc,hd⟩:=id hit;obtain⟨od,hod,fq,hdd⟩:=x;have T:=hit.typeIs;unfold aa9;refine Yo (abQ (ZO (name:=ZQ "__next__") T Z0 (ZJ Z0 T abF ?_ (abo _))));refine Yo (Yu (Yo (Yo ?_)))
 first|refine Yo (aah T (Yu (Yo (abp ho hd ?_))))|refine Yo (aaT T (Yu (Yo (abp ho hd ?_))))
 have ow:Builtin.Dict_items.ownsTuple "dict_keyiterator" = false:=by decide
 simp only[ow,YT,if_false];show YL _ A.in1 (if (YU d == Value.none)=true then _ else _) _ _ s;rw[if_neg (show ¬ (YU d == Value.none)=true from YN)];refine Yo (Yu (Yo (aat hod hdd ?_)));rw[if_neg (by simp)];refine Yo (Yu (Yo (ad5 hod hdd ?_)));rw[if_neg (by simp)];refine Yu ?_;simp only[show ¬ (es.size:Int)<0 by lia,if_false,Zm,aa6 (Yz es.size)];refine Yo ?_
 first|refine Yo (aah T (Yu ?_))|refine Yo (aaT T (Yu ?_))
 show YL _ A.in1 (afy (.ref it) 0 .none >>= _) _ _ s;refine Yo (ab5 ho hd (by simp) ?_);show YL _ A.in1 (newExc (.type "StopIteration") [] >>= _) _ _ _;refine Yo ?_;simp only[newExc,agk];refine Yo (Zu ?_ (by size_fits));refine Yo (m:=acY _ _) (adw (a:=Value.none) (by first|rfl|(simp only[acY];rfl)) ?_);refine Zu ?_ (by size_fits);simp only[raiseNew];refine Yo (wpAny_handled ?_);rw[show A.in1.handled=none from hh];refine Yo (Yu (wpAny_throw ?_));refine Yo (aby (T := "StopIteration") (b:=true) ⟨_,YA _ rfl,rfl⟩ aem ?_);exact Yu (q _ (((ZA ..).extBut.push _).push _))
theorem ON(hh:A.handled=none)(I d:YC)(bF:d≠I)(es:Array aa3)(ep:Nat) :
 Walks prog w A I [I,d] [I] es.size (λi v=>∃ e,es[i]?=some e/\v=e.key) (λi h=>h.IsKeyIter I d i es.size ep/\fN h d es ep) where
 sub:=λb hb=>by simp at hb;simp[hb]
 frame:=λ_ _ _ st hk=>⟨st.1.at λo e=>hk I (by simp) o e,st.2.at λo e=>hk d (by simp) o e⟩
 item:=λi s Q E hi st hQ=>by refine ET st.1 st.2 hi λh' kz EV=>?_;exact hQ _ h' s.toks ⟨es[i],Zb hi,rfl⟩ ⟨kz,st.2.at λo e=>EV.extBut d o bF e⟩ λb o hb e=>EV.extBut b o (λh=>hb (by simp[h])) e
 done:=λs Q E st hQ=>EU hh st.1 st.2 λh' oE=>hQ h' s.toks λb o hb e=>oE b o (λh=>hb (by simp[h])) e
 self:=λ_ _ _ _ st hQ=>aeg st.1 hQ
theorem EW(lo:(d == Z8)=false):aen prog w "dict" d d es.size (λi v=>∃ e,es[i]?=some e/\v=e.key) (λh=>fN h d es ep) where
 type:=λ_ x=>x.ty
 there:=λ_ x=>⟨x.lt,x.lt⟩
 keep:=λ_ _ x hk=>x.at λo e=>hk d (.inl rfl) o e
 notList:=by decide
 notTuple:=by decide
 hint:=λ_ _ _ _ x hq=>PySem.W.kdl_hint_dict x.ty hq
 iter:=λ_ _ hh x=>⟨_,_,(λ_ _ hq=>ES lo x hq),ON hh _ d (YH x.lt) es ep,⟨⟨_,YA _ rfl,rfl,rfl⟩,x.at λo e=>Yt _ e⟩⟩
end
section
def mO(h:aaW)(vs:List Yy)(kis:List (List Int))(i:Nat):Prop:=∃ (p:YC) (o:Obj) (ao:List Yy) (m:Nat),vs[i]?=some (.ref p)/\h.get? p=some o/\o.cls = .type "tuple" /\ o.data = .seq ao.toArray m/\ads ao (kis.getD i [])/\ao≠[]
theorem mO.keep(x:mO h vs kis i)(k:∀ b o,h.get? b=some o->(∀ n xs,o≠aa8 "list" xs n)->h'.get? b=some o):mO h' vs kis i:=by obtain⟨p,o,ao,m,h1,h2,h3,r⟩:=x;exact⟨p,o,ao,m,h1,k p o h2 (λn xs z=>by rw[z] at h3;exact absurd (Value.type.inj h3) (by decide)),h3,r⟩
theorem OO(h:ads ao ns)(hn:ao≠[]):∃ i t,ao[0]?=some (.int i t):=by
 cases h with
 | nil=>exact absurd rfl hn
 | cons=>exact⟨_,_,rfl⟩
theorem EX:∀ (vs:List Yy) (kis:List (List Int)),kis.length=vs.length->(∀ i,i<vs.length->mO h vs kis i)->∃ fs,PySem.W.KatTups h vs fs/\fs.length=vs.length/\∀ v∈fs,∃ i t,v = .int i t
 | [],_,_,_=>⟨[],PySem.W.KatTups.nil,rfl,λv z=>by simp at z⟩
 | v::vs,[],e,_=>by simp at e
 | v::vs,k::kis,e,hh=>by
  obtain⟨p,o,ao,m,h1,h2,h3,h4,h5,h6⟩:=hh 0 (by simp);have Ep:v = .ref p:=by simpa using h1
  subst Ep;obtain⟨i,t,hf⟩:=OO h5 h6;obtain⟨fs,a1,a2,a3⟩:=EX vs kis (by simpa using e) λi hi=>by obtain⟨p,o,ao,m,h1,r⟩:=hh (i+1) (by simpa using hi);exact⟨p,o,ao,m,by simpa using h1,by simpa using r⟩
  refine⟨.int i t::fs,PySem.W.KatTups.cons h2 h3 h4 (by simpa using hf) a1,by simp[a2],λv hv=>?_⟩;rcases YK.mp hv with z|z
  .exact⟨i,t,z⟩
  .exact a3 v z
def uM(prog:Zo)(w:ZZ)(h:aaW)(vs:List Yy)(kis:List (List Int)):Prop :=
 2<=vs.length->∃ κ,∀ (A:aac) (E:Yy->YB->Prop) (s:YB),s.heap=h->(∀ Q:SortKind->YB->Prop,Q κ s->YL (model prog w) A (keyKind' vs.toArray) Q E s) /\
  ∀ i j,i<vs.length->j<vs.length->∀ C:Bool->YB->Prop,C (cG kis i j) s->YL (model prog w) A (keyLt' κ (vs.getD i Value.none) (vs.getD j Value.none)) C E s
theorem OP(ho:s.heap.get? a=some (aa8 "list" vs.toArray n))(hl:kis.length=vs.length)(eM:vs.length<64)(hk:∀ g:aaW,(∀ b o,(∀ n xs,o≠aa8 "list" xs n)->s.heap.get? b=some o->g.get? b=some o)->uM prog w g vs kis)(fin:∀ h',(∀ b o,b≠a->s.heap.get? b=some o->h'.get? b=some o)->(∃ c,h'.get? a=some (aa8 "list" (aaI ((cy (cG kis) vs.length).toList.map λi=>vs.getD i Value.none)) c))->P (.done (.ret .none)) { s with heap:=h' }) :
 YL (model prog w) A (aak.«list.sort» ⟨[.ref a],[]⟩) P E s:=by
 rw[list_sort_plain];have la:a<s.heap.objs.size:=Yv ho;refine Yo (listItems_at ho rfl (Yo (aeU ho rfl ?_ (by rw[YD,abA];walk_at "o") (YS _))));obtain⟨e1,oa⟩:∃ e1,(s.heap.update a (ZM λ_=>(#[]:Array Yy))).get? a=some (aa8 "list" #[] e1):=⟨_,afW ho λ_=>#[]⟩
 have keep:∀ b o,b≠a->s.heap.get? b=some o->(s.heap.update a (ZM λ_=>(#[]:Array Yy))).get? b=some o:=λb o z e=>(YM _ _ (Zj z)).trans e;refine Yo (afX oa rfl ?_);generalize s.heap.update a (ZM λ_=>(#[]:Array Yy))=g at oa keep ⊢;refine Yo (wpAny_newTuple ?_ (by show vs.length<=_;rw[abA];walk_at "o"));refine Yo (wpAny_newList ?_ (YS _));refine ZL ?_;show YL (model prog w) A _ P E { s with heap:=(g.push (aa8 "tuple" vs.toArray 0)).push (aa8 "list" #[] 0) };have oF:((g.push (aa8 "tuple" vs.toArray 0)).push (aa8 "list" #[] 0)).get? a=some (aa8 "list" #[] e1):=Yt _ (Yt _ oa);have yh:∀ b o,b≠a->s.heap.get? b=some o->((g.push (aa8 "tuple" vs.toArray 0)).push (aa8 "list" #[] 0)).get? b=some o:=λb o z e=>Yt _ (Yt _ (keep b o z e));generalize (g.push (aa8 "tuple" vs.toArray 0)).push (aa8 "list" #[] 0)=g2 at oF yh ⊢;dsimp only;have neT:∀ b o,s.heap.get? b=some o->(∀ n xs,o≠aa8 "list" xs n)->b≠a:=λb o e z y=>by rw[y,ho] at e;cases e;exact z _ _ rfl
 have EY:((cy (cG kis) vs.length).toList.map λi=>vs.getD i Value.none).length=vs.length:=by rw[Yq,(ou (n:=vs.length) (mK kis)).1.length_eq,YE]
 have sz:(aaI ((cy (cG kis) vs.length).toList.map λi=>vs.getD i Value.none)).size<=YR+1:=by rw[YD,EY,abA];walk_at "o"
 have done:P (.done (.ret .none)) { s with heap:=g2.update a (ZM λ_=>aaI ((cy (cG kis) vs.length).toList.map λi=>vs.getD i Value.none)) } :=
  fin _ (λb o z e=>(YM _ _ (Zj z)).trans (yh b o z e)) ⟨_,afW oF λ_=>_⟩
 by_cases h2:vs.toArray.size<2
 .rw[if_pos h2,if_pos h2];refine Yo (Yu ?_);rw[StateT.run_pure];refine Yo (Yu ?_);dsimp only;have self:(YZ vs.length).map (λi=>vs.getD i Value.none)=vs:=by
   apply adG
   .simp
   .intro i h1 h2;simp[Yr,h2]
  have e0:(arrOf (SortSt.mk' general' (vs.toArray.zip vs.toArray) #[] 7 none)).map (·.2)=aaI ((cy (cG kis) vs.length).toList.map λi=>vs.getD i Value.none):=by unfold cy;rw[if_pos (by simpa using h2)];apply Array.toList_inj.mp;rw[show (YZ vs.length).toArray.toList=YZ vs.length from rfl,self];show ((vs.toArray.zip vs.toArray).map (·.2)).toList=_;simp[List.map_snd_zip]
  rw[e0];refine Yo (afX oF rfl (Yo (aeU oF rfl ?_ (YS _) sz)));simp only[bne_self_eq_false,YT,if_false];exact Yu done
 .rw[if_neg h2,if_neg h2];have x8:2<=vs.length:=by rw[YD] at h2;walk_at "o"
  obtain⟨κ,hκ⟩:=hk g2 (λb o z e=>yh b o (neT b o e z) e) x8;refine Yo ((hκ A E { s with heap:=g2 } rfl).1 _ ?_);have ask:(PySem.W.kas_sort vs.length).kasWp (PySem.W.kas_ask prog w A κ vs) (λp s'=>s' = { s with heap:=g2 }/\p=cy (cG kis) vs.length) { s with heap:=g2 }:=by
   have pv:=El _ (Ej (n:=vs.length) (mK kis) (by walk_at "o"));refine Ed (lt:=cG kis) (n:=vs.length) (Ok:=λs'=>s' = { s with heap:=g2 }) (λi j C s' hi hj e q=>?_) (λp s' e q=>⟨e,?_⟩) _ _ rfl pv
   .subst e;exact (hκ _ _ _ rfl).2 i j hi hj C (q _ rfl)
   .rw[q];unfold cy;rw[if_neg (by walk_at "o")]
  refine Yo (ZD (PySem.W.kat_run (κ:=κ) (ks:=vs) (vs:=vs) (Q:=λst s'=>s' = { s with heap:=g2 }/\arrOf st=(cy (cG kis) vs.length).map (PySem.W.kas_item (vs.toArray.zip vs.toArray))/\failedOf st=none)
   rfl x8 eM (λp st s' b1 b2 b3 b4=>⟨b4.1,by rw[b2,b4.2],b3⟩) ask) ?_ λ_ _ z=>z)
  rintro ⟨⟨⟩,st⟩ s' ⟨rfl,har,hf⟩;dsimp only;rw[PySem.W.kat_snds rfl har];refine Yo (afX oF rfl (Yo (aeU oF rfl ?_ (YS _) sz)));rw[hf];simp only[bne_self_eq_false,YT,if_false];exact Yu done
theorem EZ(hl:kis.length=vs.length)(eM:vs.length<64)(hk:∀ g:aaW,(∀ b o,(∀ n xs,o≠aa8 "list" xs n)->s.heap.get? b=some o->g.get? b=some o)->uM prog w g vs kis)(qK:∀ (A':aac) (Q':List Yy->YB->Prop) (E':Yy->YB->Prop),A'.handled=A.handled->(∀ h' tk,(∀ b o,s.heap.get? b=some o->h'.get? b=some o)->s.heap.objs.size<=h'.objs.size->Q' vs { s with heap:=h',toks:=tk })->YL (model prog w) A' (collect (.ref r)) Q' E' s)(q:∀ l h' tk,s.heap.objs.size<=l->(∀ b o,s.heap.get? b=some o->h'.get? b=some o)->(∃ c,h'.get? l=some (aa8 "list" (aaI ((cy (cG kis) vs.length).toList.map λi=>vs.getD i Value.none)) c))->Q (.ref l) { s with heap:=h',toks:=tk }) :
 YL (model prog w) A (call (.builtin "sorted") [.ref r]) Q E s:=by
 refine acZ kind_sorted plain_sorted entry_sorted (args_sorted1 _) ?_;unfold aak.«sorted»;refine Yo (m:=checkCount "sorted" 1 1 _) (Yu (Yo (qK _ _ _ rfl λh1 tk keep hsz=>?_)));refine Yo (wpAny_newList ?_ (by rw[abA];walk_at "o"));have oL:(h1.push (aa8 "list" vs.toArray 0)).get? h1.objs.size=some (aa8 "list" vs.toArray 0):=YA _ rfl;have qL:∀ b o,s.heap.get? b=some o->b≠h1.objs.size/\(h1.push (aa8 "list" vs.toArray 0)).get? b=some o:=λb o e=>by have:=Yv e;exact⟨by walk_at "o",Yt _ (keep b o e)⟩
 show YL _ A.in1 (holding [.ref h1.objs.size] (call (.builtin "list.sort") [.ref h1.objs.size]) >>= _) _ _ { s with heap:=h1.push (aa8 "list" vs.toArray 0),toks:=tk };generalize h1.push (aa8 "list" vs.toArray 0)=h2 at oL qL ⊢;generalize h1.objs.size=l at oL qL hsz ⊢;refine Yo (ZL (ZJ slot_list_sort ⟨_,oL,rfl⟩ entry_list_sort ?body (args_list_sort _)))
 case body =>
  refine OP (s:={ s with heap:=h2,toks:=tk }) oL hl eM (λg z=>hk g λb o n e=>z b o n (qL b o e).2) λh' k c=>⟨_,rfl,Yu ⟨_,rfl,q l h' tk hsz (λb o e=>k b o (qL b o e).1 (qL b o e).2) c⟩⟩
theorem OQ(hl:kis.length=vs.length)(hk:∀ i,i<vs.length->mO h vs kis i):uM prog w h vs kis:=λh2=>by
 obtain⟨fs,ht,lf,hi⟩:=EX vs kis hl hk;refine⟨tuples' true,λA E s e=>?_⟩;subst e;refine⟨λQ q=>PySem.W.kat_kind (T:=.type "int") ht (by walk_at "o") (λv hv=>?_) (by decide) q,λi j hi hj C q=>?_⟩
 .obtain⟨i,t,rfl⟩:=hi v hv;exact PySem.W.Looks.now
 .obtain⟨p1,o1,i1,m1,a1,b1,_,c1,d1,_⟩:=hk i hi;obtain⟨p2,o2,i2,m2,a2,b2,_,c2,d2,_⟩:=hk j hj;rw[Yr,Yr,a1,a2];have z1:=d1.length;have z2:=d2.length;exact PySem.W.kat_lt b1 c1 b2 c2 (by simpa using Ob (b:=true) (i:=0) d1 d2 (by simp[z1,z2]) q)
theorem OR(hl:kis.length=vs.length)(eM:vs.length<64)(hk:∀ i,i<vs.length->mO s.heap vs kis i)(qK:∀ (A':aac) (Q':List Yy->YB->Prop) (E':Yy->YB->Prop),A'.handled=A.handled->(∀ h' tk,(∀ b o,s.heap.get? b=some o->h'.get? b=some o)->s.heap.objs.size<=h'.objs.size->Q' vs { s with heap:=h',toks:=tk })->YL (model prog w) A' (collect (.ref r)) Q' E' s)(q:∀ l h' tk,s.heap.objs.size<=l->(∀ b o,s.heap.get? b=some o->h'.get? b=some o)->(∃ c,h'.get? l=some (aa8 "list" (aaI ((cy (cG kis) vs.length).toList.map λi=>vs.getD i Value.none)) c))->Q (.ref l) { s with heap:=h',toks:=tk }) :
 YL (model prog w) A (call (.builtin "sorted") [.ref r]) Q E s :=
 EZ hl eM (λg z=>OQ hl λi hi=>(hk i hi).keep λb o e n=>z b o n e) qK q
theorem E1(K:aen prog w T r d n P OK)(hh:A.handled=none)(ay:OK s.heap)(hn:n<=YR)(q:∀ h' tk acc,(∀ b o,s.heap.get? b=some o->h'.get? b=some o)->s.heap.objs.size<=h'.objs.size->ItemsOf P acc n->Q acc.toList { s with heap:=h',toks:=tk }):YL (model prog w) A (collect (.ref r)) Q E s:=by
 have lt:=K.there _ ay;unfold collect;refine Yo (wpAny_runValue (Zt entry_proto_collect' ?_));rw[Zi PySem.F.plain_proto_collect _];show YL _ A.in1 (agh [] >>= λl=>again (.builtin "list.__iadd__" ⟨[l,.ref r],[]⟩)) _ _ s;refine Yo (Zu (Yu ⟨Code.quiet_builtin _ (by decide +kernel),Zt entry_list_iadd' ?_⟩));rw[Zi PySem.F.plain_list_iadd _];have oS:(s.heap.push { cls:=.type "list",data:=.seq ([]:List Yy).toArray }).get? s.heap.objs.size=some { cls:=.type "list",data:=.seq #[] 0 }:=YA _ rfl;show YL _ A.in1 (aaz (.ref s.heap.objs.size) (.ref r) (.ref s.heap.objs.size)) _ _ { s with heap:=s.heap.push { cls:=.type "list",data:=.seq ([]:List Yy).toArray } };refine PySem.W.kdl_extend (R:=λr s'=>match r with
  | .ok (.ret v)=>YL (model prog w) A (match v with|.ref a=>(do match (<- load a).data with|.seq xs _=>pure xs.toList|_=>unsupported "internal:collect")|_=>unsupported "internal:collect") Q E s'
  | .ok _=>False
  | .error e=>E e s') (s:={ s with heap:=s.heap.push { cls:=.type "list",data:=.seq ([]:List Yy).toArray } }) K hh (K.keep _ _ ay λb _ o e=>Yt _ e) s.heap.objs.size (Zx lt.1) (Zx lt.2) (.ref s.heap.objs.size) 0 oS (λh' tk acc c hk hS fO=>?_) hn
 show YL _ A (load s.heap.objs.size >>= _) _ _ _;refine Yo (wpAny_load hS (Yu ?_));exact q h' tk acc (λb o e=>hk b o (YH (Yv e)) (Yt _ e)) (ab6 (Yv hS)) fO
end
def gV(H:Hp)(xs:List V)(kvs:List (List Key × V)):Prop:=az (λx (kv:List Key × V)=>∃ a,x = .ref a/\H a=some (.tup (kv.1.map kV))) xs kvs
theorem KT.E2(r:KT H kvs xs):gV H ((xs.map (·.2.1)).map V.ref) kvs:=by
 induction r with
 | nil=>exact trivial
 | cons h t ih=>exact⟨⟨_,rfl,h.2.1⟩,ih⟩
theorem gV.E3{K:Yp}{H:Hp}:∀ {ys:List V} {kvs:List (List Key × V)} {kis:List (List Int)},gV H ys kvs->kvs.map (·.1)=kis.map (λk=>k.map adp)->(∀ k∈kis,k≠[])->gT K H ys kis
 | [],[],[],_,_,_=>trivial
 | [],[],_::_,_,e,_=>by simp at e
 | _::_,kv::kvs,[],_,e,_=>by simp at e
 | y::ys,kv::kvs,k::kis,h,e,hn=>by rw[YV,YV] at e;injection e with e1 e2;obtain⟨⟨a,rfl,ha⟩,t⟩:=h;refine⟨⟨a,rfl,?_,hn k (.head _)⟩,gV.E3 t e2 λk hk=>hn k (.tail _ hk)⟩;rw[e1,ZH] at ha;exact .inl (.inl ha)
 | [],_::_,_,h,_,_=>h.elim
 | _::_,[],_,h,_,_=>h.elim
theorem yi:∀ (as:List YC),Vals (as.map V.ref) (as.map YU)
 | []=>.nil
 | _::as=>.cons rfl (yi as)
section
theorem E4(I:Inv X pins σ H s)(e:H p=some (.dT kvs)):∃ (as:List YC) (es:Array aa3) (ep:Nat),gV H (as.map V.ref) kvs/\(p == Z8)=false/\fN s.heap p es ep/\es.size=as.length/\(∀ acc:Array Yy,ItemsOf (λi v=>∃ e,es[i]?=some e/\v=e.key) acc es.size->acc.toList=as.map YU)/\as.length<=YR:=by
 obtain⟨z,hd,xs,rel,o,es,ep,ho,hc,hdt,he,his,hn⟩:=uK I.ay e;have hl:xs.length=kvs.length:=(Paired.length rel).symm;have hs:es.size=xs.length:=abe he;refine⟨xs.map (·.2.1),es,ep,KT.E2 rel,hd,⟨o,ho,hc,hdt⟩,by rw[Yq];exact hs,λacc ha=>?_,by rw[Yq,hl];exact z⟩;refine ab1 λi=>?_;rw[YG,YG];have la:acc.toList.length=es.size:=by rw[aaY];exact ha.1
 by_cases hi:i<es.size
 .obtain⟨v,hv⟩:∃ v,acc.toList[i]?=some v:=⟨_,Ys (by lia)⟩
  obtain⟨en,h1,h2⟩:=ha.2 i v (by rw[<- ace];exact hv);rw[entry_at he i] at h1;cases hx:xs[i]? with
  | none=>rw[hx] at h1;cases h1
  | some y=>rw[hx] at h1;cases h1;rw[hv,h2];rfl
 .rw[ZV (by lia),ZV (by lia)];rfl
theorem OS(hc:X.calm=true):dW X (.type "list") (λxs H Q=>∃ p kvs,xs=[.ref p]/\H p=some (.dT kvs)/\∀ l ys,H l=none->gV H ys kvs->Q (.ref l) (upd H l (.lst ys))):=by intro pins s σ H xs us Q I r h;obtain⟨p,kvs,rfl,e,q⟩:=h;obtain⟨u,rfl,rx⟩:=vals1 r;cases rx;obtain⟨as,es,ep,hk,lo,ra,hs,fO,hz⟩:=E4 I e;refine PySem.W.kdl_call (EW lo) (I.ok.hd hc) ra (by rw[hs];exact hz) λh' tk acc c keep hD ha=>?_;have ea:=fO acc ha;exact⟨.ref s.heap.objs.size,_,I.laid (t':=tk) keep (Yz _) (show br X.prog X.w _ h' _ (.lst (as.map V.ref)) from ⟨by rw[Yq];exact hz,as.map YU,c,yi as,by rw[<- ea,aeh];exact hD⟩),rfl,q _ _ (I.ay.fresh (Yz _)) hk⟩
theorem OT(I:Inv X pins σ H s)(h:gT X.K H ks kis)(r:Vals ks us):∀ i,i<us.length->mO s.heap us kis i:=λi hi=>by
 have hk:i<ks.length:=by rw[r.length];exact hi
 have OU:i<kis.length:=by rw[<- h.len];exact hk
 obtain⟨p,ep,hp⟩:=h.get (Ys hk);obtain⟨u,eu,ru⟩:=r.get (Ys hk);rw[ep] at ru;cases ru;obtain⟨ao,rv,⟨o,ho,hc,m,hd⟩,_⟩:=I.tuple hp;refine⟨p,o,ao,m,eu,ho,hc,hd,intsAre_of rv,λz=>?_⟩;have nn:kis.getD i []≠[]:=by
  have all:∀ {ks:List V} {ns:List (List Int)},gT X.K H ks ns->∀ n∈ns,n≠[]:=by
   intro ks
   induction ks with
   | nil=>intro ns h n hn;cases ns with
    | nil=>simp at hn
    | cons _ _=>exact h.elim
   | cons k ks ih=>intro ns h n hn;cases ns with
    | nil=>exact h.elim
    | cons m ns =>
     obtain⟨⟨_,_,_,bF⟩,t⟩:=h;rcases YK.mp hn with z|z
     .rw[z];exact bF
     .exact ih t n z
  rw[Yr,Ys OU];exact all h _ (adF _)
 have:=rv.length;rw[Yq,z] at this;exact nn (aao.mp this)
theorem E5(I:Inv X pins σ H s)(r:Vals ks us)(hz:ks.length<=YR)(hl:s.heap.objs.size<=l)(keep:∀ b o,s.heap.get? b=some o->h'.get? b=some o)(hD:∃ c,h'.get? l=some (aa8 "list" (aaI ((cy (cG kis) us.length).toList.map λi=>us.getD i Value.none)) c))(q:∀ l,H l=none->Q (.ref l) (upd H l (.lst (dq kis .non ks)))):EP X pins σ Q (.ref l) { s with heap:=h',toks:=tk }:=by obtain⟨c,hD⟩:=hD;have sv:=Od (kis:=kis) r;rw[r.length] at sv;exact⟨.ref l,_,I.laid (t':=tk) keep hl (show br X.prog X.w _ h' _ (.lst (dq kis .non ks)) from ⟨by rw[Es];exact hz,_,c,sv,hD⟩),rfl,q l (I.ay.fresh hl)⟩
theorem OV(hc:X.calm=true):dW X (.builtin "sorted") (λxs H Q=>∃ (p:YC) (kvs:List (List Key × V)) (kis:List (List Int)),xs=[.ref p]/\H p=some (.dT kvs)/\kvs.map (·.1)=kis.map (λk=>k.map adp)/\(∀ k∈kis,k≠[])/\kvs.length<64 /\
 ∀ l ys,H l=none->gV H ys kvs->Q (.ref l) (upd H l (.lst (dq kis .non ys)))):=by
 intro pins s σ H xs us Q I r h;obtain⟨p,kvs,kis,rfl,e,ek,bF,eM,q⟩:=h;obtain⟨u,rfl,rx⟩:=vals1 r;cases rx;obtain⟨as,es,ep,hk,lo,ra,hs,fO,hz⟩:=E4 I e;have la:as.length=kvs.length:=by have:=hk.len;rwa [Yq] at this
 have lk:kis.length=kvs.length:=by have:=congrArg List.length ek;simpa using this.symm
 have hK:gT X.K H (as.map V.ref) kis:=hk.E3 ek bF;have rv:=yi as;refine OR (kis:=kis) (vs:=as.map YU) (by rw[Yq];lia) (by rw[Yq];lia) (OT I hK rv) (λA' Q' E' hA hq=>E1 (EW lo) (hA.trans (I.ok.hd hc)) ra (by rw[hs];exact hz) λh' tk acc k1 k2 ha=>?_) λl h' tk h1 h2 h3=>E5 I rv (by rw[Yq];exact hz) h1 h2 h3 λl hl=>q l _ hl hk;rw[fO acc ha];exact hq h' tk k1 k2
end
theorem OW(z:kvs.length<=YR)(lo:(a == Z8)=false)(rel:KT H' kvs xs)(dd:h'.DictOfH (ac5 (eo P w)) a xs):br P w H' h' a (.dT kvs):=by obtain⟨o,es,ep,h1,h2,h3,h4,_,h5⟩:=dd;exact⟨z,lo,xs,rel,o,es,ep,h1,h2,h3,h4,h5⟩
section
theorem OX(e:H p=some (.dT kvs))(r:KT H qM xs):KT (upd H p ob) qM xs :=
 KT.keeps r λb ys z=>by rw[aD (λy=>by rw[y,e] at z;cases z)];exact z
theorem OY(hu:A.units+1<acv)(I:Inv X pins σ H s)(e:H p=some (.dT kvs))(eb:H b=some (.tup (k.map kV)))(hm:more=[] ∨ ∃ x,more=[x])(h1:∀ v,cH kvs k=some v->∀ w' s',Inv X pins σ (upd H p (.dT (fL kvs k))) s'->RelV v w'->Q w' s')(h0:cH kvs k=none->∃ x,more=[x]/\∀ s',Inv X pins σ H s'->Q x s') :
 YL (model X.prog X.w) A (call (.builtin "dict.pop") (.ref p :: .ref b::more)) Q E s:=by
 obtain⟨z,lo,xs,rel,dd⟩:=uK I.ay e;have hl:xs.length=kvs.length:=(Paired.length rel).symm;refine OM (aaJ hu) (qI I.ay eb) lo dd (by rw[hl];exact z) hm (λy hy h' tk mM hs=>?_) λhn=>?_
 .have rv:=rel.val k;rw[hy] at rv;cases hv:cH kvs k with
  | none=>rw[hv] at rv;exact (show False from rv).elim
  | some v =>
   rw[hv] at rv;have he:∃ q,h'.get? p=some q:=let ⟨q,_,_,hq,_⟩:=mM;⟨q,hq⟩;exact h1 v hv _ _ (yb (t':=tk) I (by rw[e];exact aaP) hs he (OW (Yw (Oy kvs k) z) lo (OX e (KT.out rel k)) mM)) rv
 .have rv:=rel.val k;rw[hn] at rv;cases hv:cH kvs k with
  | some v=>rw[hv] at rv;exact (show False from rv).elim
  | none =>
   obtain⟨x,ex,q⟩:=h0 hv;exact⟨x,ex,λtk=>q _ (I.tok tk)⟩
end
def E6(td ty:TE):TE:=λσ H Q=>td σ H λx H1=>∃ a,x = .ref a/\EJ H1 a/\ty σ H1 λy H2=>∃ b kvs k v,y = .ref b/\H2 a=some (.dT kvs)/\H2 b=some (.tup (k.map kV))/\cH kvs k=some v/\Q v (upd H2 a (.dT (fL kvs k)))
section
theorem E7(hu:X.A.units+1<acv)(ho:PE X o td)(he:PE X e ty)(m:M1 X o "pop" apos e cM):PE X (.Call (.Attribute o "pop" apos) [e] [] cM) (E6 td ty):=by
 intro pins s σ H Q I h;refine wpAny_Call_method m.base m.few m.line PySem.F.plainAttrs_dict ad4 PySem.F.type_dict_pop (aB (ho pins s σ H _ I h) λu s1 zq=>?_);obtain⟨x,H1,I1,rx,a,ex,d,q1⟩:=zq;subst ex;obtain rfl:u=YU a:=rx;obtain⟨t1,t2,_⟩:=OG I1 d;refine⟨t1,t2,?_⟩;rw[m.trees];refine adM rfl (aco (aae (aB (he pins s1 σ H1 _ I1 q1) λiv s2 ⟨y,H2,I2,ry,b,kvs,k,v,ey,ea,eb,l,q2⟩=>aas ?_)));subst ey;obtain rfl:iv=YU b:=ry;exact OY hu I2 ea eb (.inl rfl) (λv' l' w' s3 I3 iA=>⟨v',_,I3,iA,by rw[l] at l';cases l';exact q2⟩) λl'=>by rw[l] at l';cases l'
theorem E8:dW X (.builtin "len") (λxs H Q=>∃ p kvs,xs=[.ref p]/\H p=some (.dT kvs)/\Q (.int kvs.length) H):=by
 intro pins s σ H xs us Q I r h;obtain⟨p,kvs,rfl,e,q⟩:=h;obtain⟨u,rfl,rx⟩:=vals1 r;cases rx;obtain⟨z,lo,xs,rel,o,es,ep,ho,hc,hdt,he,his,hn⟩:=uK I.ay e;have hs:es.size=kvs.length:=(abe he).trans (Paired.length rel).symm;have T:s.TypeIs (.ref p) "dict" := ⟨o,ho,hc.1⟩;have g:MeetsIn X.prog X.w (aak.«dict.__len__» ⟨[.ref p],[]⟩) (λ_ R s=>s.heap.get? p=some o/\R (.ok (.ret (.int kvs.length s.toks))) { s with toks:=s.toks+1 }):=.of_wp λA R s ⟨ho,h⟩=>by show YL _ _ (dictSize p >>= _) _ _ s;unfold dictSize;refine Yo (Yo (aat ho hdt (Yu ?_)));show YL _ _ (Builtin.Dict.pendingCount p >>= _) _ _ s;refine Yo (wpAny_pendingCount_other lo (wpAny_ret_mkInt ?_));rw[Nat.add_zero,hs];exact h
 refine acZ kind_len plain_len entry_len (args_len1 _) ?_;unfold aak.«len»;refine Yo (m:=oneArg "len" _) (Yu (Yo (m:=callSpecial? (.ref p) (ZQ "__len__")) (ZO (name:=ZQ "__len__") T ad6 (call_meetsIn ad6 T PySem.F.entry_dict_len (PySem.F.args_dict_len_1 _) g ⟨ho,?_⟩))));show YL _ _ _ _ _ { s with toks:=s.toks+1 };refine Yo (ZL (Yu (Yo (abD ?_))));show YL _ _ (if ((kvs.length:Nat):Int)<0 then _ else _) _ _ _;rw[if_neg (by lia)];rw[abA] at z;show YL _ _ (if ((kvs.length:Nat):Int) ≥ 2 ^ 63 then _ else _) _ _ _;rw[if_neg (by lia)];exact Yo (wpAny_mkInt (Yu ⟨_,rfl,.int kvs.length,H,I.tok _,⟨_,rfl⟩,q⟩))
end
section
variable{prog:Zo}{w:ZZ}{K:Type}[DecidableEq K]{knd:KeyKind prog w K}{A:aac}{E:Yy->YB->Prop}{s:YB}{o d:YC}{es:Array aa3}{ep:Nat}
end
section
end
theorem aN{c:Prop}[Decidable c]{a b:Prop}(h:c->a)(h':¬ c->b):if c then a else b:=by
 by_cases z:c
 .rw[if_pos z];exact h z
 .rw[if_neg z];exact h' z
theorem EE(h:aaW)(hb:Z8<h.objs.size):br P w H (h.push { cls:=.type "dict",data:=.dict #[] }) h.objs.size (.dK []) :=
 ⟨YS _,beq_eq_false_iff_ne.mpr (Zj (YH hb)),[],.nil,Heap.DictOf.new h⟩
section
theorem Inv.OZ(I:Inv X pins σ H s):Z8<s.heap.objs.size:=by have h:YW<s.heap.objs.size:=(I.mod.glob.keeps I.bk).lt;exact agz (by decide) h
def E9:TE:=λ_ H Q=>∀ p,H p=none->Q (.ref p) (upd H p (.dT []))
theorem Fc:PE X (.Dict [] [] pos) E9:=λpins s σ H Q I h=>wpAny_Dict_empty
 ⟨.ref s.heap.objs.size,_,I.laid (a:=s.heap.objs.size) (o:=.dT []) (t':=s.toks) (λ_ _ z=>Yt _ z) (Yz _)
  ⟨YS _,beq_eq_false_iff_ne.mpr (Zj (YH (Inv.OZ I))),[],.nil,_,#[],0,YA _ rfl,⟨rfl,rfl,rfl⟩,rfl,rfl,ac0⟩,rfl,h _ (I.ay.fresh (Yz _))⟩
theorem yj(h:∃ t,X.mg x=some (.int n t))(hg:Gl X x)(hd:(x == ("__debug__" : Str))=false:=by decide):PE X (.Name x pos) (tC (.int n)):=by obtain⟨t,ht⟩:=h;exact tP (v:=.int n) hg ht ⟨t,rfl⟩ hd
end
section
end
noncomputable def n5(ks:List P2)(r:Int)(i:Nat):Bool:=decide ((aE ks i).1<=r) && decide (r<=(aE ks (i+1)).1)
theorem Fd(hu:A.units+1<acv)(ho:PE X o td)(hi:PE X i ty)(hs:yc i)(eA:X.A=A:=by rfl):PE X (.Subscript o i pos) (yd td ty):=by subst eA;exact uL hu ho hi hs
abbrev Tb:=List (P2 × S2)
noncomputable def bB(i j:Int):List Key:=[.inl i,.inl j]
theorem uN{a b:P2}(h:bB a.1 a.2=bB b.1 b.2):a=b:=by unfold bB at h;injection h with h1 h2;injection h2 with h2 _;exact Prod.ext (Sum.inl.inj h1) (Sum.inl.inj h2)
noncomputable def gW(tb:Tb)(s:P2):Option S2:=(tb.find? λr=>decide (r.1=s)).map (·.2)
noncomputable def gv(tb:Tb)(s:P2)(w:S2):Tb:=if (tb.any λr=>decide (r.1=s))=true then tb.map (λr=>if r.1=s then (r.1,w) else r) else tb++[(s,w)]
noncomputable def lA(tb:Tb)(s:P2):Tb:=tb.filter λr=>decide (r.1≠s)
def a8(H:Hp):List (List Key × V)->Tb->Prop
 | [],[]=>True
 | kv::kvs,r::tb=>(kv.1=bB r.1.1 r.1.2/\aK H kv.2 r.2.1 r.2.2)/\a8 H kvs tb
 | _,_=>False
section
theorem a8.len:∀ {kvs:List (List Key × V)} {tb:Tb},a8 H kvs tb->kvs.length=tb.length
 | [],[],_=>rfl
 | _::kvs,_::tb,h=>congrArg (· + 1) (a8.len (kvs:=kvs) (tb:=tb) h.2)
 | [],_::_,h=>h.elim
 | _::_,[],h=>h.elim
theorem a8.imp(f:∀ v a b,aK H v a b->aK H' v a b):∀ {kvs:List (List Key × V)} {tb:Tb},a8 H kvs tb->a8 H' kvs tb
 | [],[],_=>trivial
 | _::kvs,_::tb,h=>⟨⟨h.1.1,f _ _ _ h.1.2⟩,a8.imp f (kvs:=kvs) (tb:=tb) h.2⟩
 | [],_::_,h=>h.elim
 | _::_,[],h=>h.elim
theorem a8.app:∀ {kvs qM:List (List Key × V)} {tb iG:Tb},a8 H kvs tb->a8 H qM iG->a8 H (kvs++qM) (tb++iG)
 | [],_,[],_,_,h=>h
 | _::kvs,qM,_::tb,iG,h,h'=>⟨h.1,a8.app (kvs:=kvs) (tb:=tb) h.2 h'⟩
 | [],_,_::_,_,h,_=>h.elim
 | _::_,_,[],_,h,_=>h.elim
theorem a8.keys:∀ {kvs:List (List Key × V)} {tb:Tb},a8 H kvs tb->kvs.map (·.1)=tb.map λr=>bB r.1.1 r.1.2
 | [],[],_=>rfl
 | kv::kvs,r::tb,h=>by rw[YV,YV,h.1.1,a8.keys (kvs:=kvs) (tb:=tb) h.2]
 | [],_::_,h=>h.elim
 | _::_,[],h=>h.elim
theorem a8.any(s:P2):∀ {kvs:List (List Key × V)} {tb:Tb},a8 H kvs tb->(kvs.any λkv=>decide (kv.1=bB s.1 s.2))=tb.any λr=>decide (r.1=s)
 | [],[],_=>rfl
 | kv::kvs,r::tb,h=>by
  rw[ZN,ZN,a8.any s (kvs:=kvs) (tb:=tb) h.2,h.1.1]
  congr 1
  by_cases e:r.1=s
  .rw[e,decide_eq_true rfl,decide_eq_true rfl]
  .rw[decide_eq_false e,decide_eq_false λz=>e (uN z)]
 | [],_::_,h=>h.elim
 | _::_,[],h=>h.elim
theorem a8.val(s:P2):∀ {kvs:List (List Key × V)} {tb:Tb},a8 H kvs tb->(gW tb s=none->cH kvs (bB s.1 s.2)=none)/\∀ w,gW tb s=some w->∃ v,cH kvs (bB s.1 s.2)=some v/\aK H v w.1 w.2
 | [],[],_=>⟨λ_=>rfl,λw h=>by cases h⟩
 | kv::kvs,r::tb,h=>by
  have ih:=a8.val s (kvs:=kvs) (tb:=tb) h.2;by_cases e:r.1=s
  .have e1:gW (r::tb) s=some r.2:=by simp[gW,Z2,e]
   rw[e1,uH (h.1.1.trans (by rw[e]))];exact⟨λz=>(by cases z),λw z=>(by cases z;exact⟨_,rfl,h.1.2⟩)⟩
  .have e1:gW (r::tb) s=gW tb s:=by simp[gW,Z2,e]
   rw[e1,uI (λz=>e (uN (h.1.1.symm.trans z)))];exact ih
 | [],_::_,h=>h.elim
 | _::_,[],h=>h.elim
theorem a8.oA(hv:aK H v w.1 w.2):∀ {kvs:List (List Key × V)} {tb:Tb},a8 H kvs tb->a8 H (kvs.map λkv=>if kv.1=bB s.1 s.2 then (kv.1,v) else kv) (tb.map λr=>if r.1=s then (r.1,w) else r)
 | [],[],_=>trivial
 | kv::kvs,r::tb,h=>by
  rw[YV,YV];refine⟨?_,a8.oA hv (kvs:=kvs) (tb:=tb) h.2⟩;by_cases e:r.1=s
  .rw[if_pos e,if_pos (h.1.1.trans (by rw[e]))];exact⟨h.1.1,hv⟩
  .rw[if_neg e,if_neg (λz=>e (uN (h.1.1.symm.trans z)))];exact h.1
 | [],_::_,h=>h.elim
 | _::_,[],h=>h.elim
theorem a8.put(h:a8 H kvs tb)(hv:aK H v w.1 w.2):a8 H (putK kvs (bB s.1 s.2) v) (gv tb s w):=by
 unfold putK gv;rw[h.any s];split
 .exact h.oA hv
 .exact h.app ⟨⟨rfl,hv⟩,trivial⟩
theorem a8.drop:∀ {kvs:List (List Key × V)} {tb:Tb},a8 H kvs tb->a8 H (fL kvs (bB s.1 s.2)) (lA tb s)
 | [],[],_=>trivial
 | kv::kvs,r::tb,h=>by
  have ih:=a8.drop (s:=s) (kvs:=kvs) (tb:=tb) h.2;unfold fL lA at *;rw[Za,Za];by_cases e:r.1=s
  .have e2:kv.1=bB s.1 s.2:=h.1.1.trans (by rw[e]);rw[if_neg (by simp[e2]),if_neg (by simp[e])];exact ih
  .have e2:¬ kv.1=bB s.1 s.2:=λz=>e (uN (h.1.1.symm.trans z));rw[if_pos (by simp[e2]),if_pos (by simp[e])];exact⟨h.1,ih⟩
 | [],_::_,h=>h.elim
 | _::_,[],h=>h.elim
theorem a8.qN:∀ {ys:List V} {kvs:List (List Key × V)} {tb:Tb},a8 H kvs tb->gV H ys kvs->bL H ys (tb.map (·.1))
 | [],[],[],_,_=>trivial
 | y::ys,kv::kvs,r::tb,h,⟨⟨a,e,ha⟩,t⟩=>⟨⟨a,e,by rw[h.1.1] at ha;exact ha⟩,a8.qN (ys:=ys) (kvs:=kvs) (tb:=tb) h.2 t⟩
 | [],_::_,_,_,h=>h.elim
 | _::_,[],_,_,h=>h.elim
 | _,[],_::_,h,_=>h.elim
 | _,_::_,[],h,_=>h.elim
end
def TabAt(H:Hp)(p:YC)(tb:Tb):Prop:=∃ kvs,H p=some (.dT kvs)/\a8 H kvs tb
def Fr(H H':Hp):Prop:=∀ b o,(∀ kvs,o≠HO.dT kvs)->H b=some o->H' b=some o
def oG(ps:List YC)(H H':Hp):Prop:=∀ b o,b∉ps->H b=some o->H' b=some o
def Fe(H:Hp)(ps:List YC):Prop:=∀ p∈ps,∃ kvs,H p=some (.dT kvs)
section
theorem _root_.L2.aj.fr(s:aj H H'):Fr H H':=λb o _ e=>s b o e
theorem SameBut.but(a:SameBut p H H')(h:p∈ps):oG ps H H':=λc o z e=>a c o (λy=>z (y ▸ h)) e
theorem oG.fr(a:oG ps H H')(d:Fe H ps):Fr H H':=λb o ho e=>by
 by_cases hb:b∈ps
 .obtain⟨kvs,hk⟩:=d b hb;rw[hk] at e;exact absurd (Option.some.inj e).symm (ho kvs)
 .exact a b o hb e
theorem Ff(h:H p=some (.dT kvs)):Fr H (upd H p o):=λb u hu e=>by rw[aD (λz=>by rw[z,h] at e;exact hu _ (Option.some.inj e).symm)];exact e
theorem O0(h:H p=some (.dT kvs)):Fe H [p]:=λb hb=>⟨kvs,(Zc.mp hb) ▸ h⟩
theorem SameBut.fr(a:SameBut p H H')(h:H p=some (.dT kvs)):Fr H H':=oG.fr (SameBut.but a (.head _)) (O0 h)
theorem aK.fr(h:aK H v a b)(f:Fr H H'):aK H' v a b:=let ⟨p,e,hp⟩:=h;⟨p,e,f _ _ (λ_ z=>nomatch z) hp⟩
theorem TabAt.fr(h:TabAt H p tb)(f:Fr H H')(e:∀ kvs,H p=some (.dT kvs)->H' p=some (.dT kvs)):TabAt H' p tb:=let ⟨kvs,a,b⟩:=h;⟨kvs,e _ a,b.imp λ_ _ _ z=>z.fr f⟩
theorem TabAt.same(h:TabAt H p tb)(s:aj H H'):TabAt H' p tb:=h.fr s.fr λ_ e=>s _ _ e
end
theorem oH(hn:(tb.map (·.1)).Nodup)(h:r∈tb):gW tb r.1=some r.2:=by
 induction tb with
 | nil=>cases h
 | cons x l ih =>
  rw[YV,ZC] at hn;rcases YK.mp h with z|z
  .rw[<- z];simp[gW,Z2]
  .have e:¬ x.1=r.1:=λy=>hn.1 (y ▸ YI.mpr ⟨r,z,rfl⟩);have:gW (x::l) r.1=gW l r.1:=by simp[gW,Z2,e]
   rw[this,ih hn.2 z]
def mP(e t:Int)(s:P2):Prop:=(0<=s.1/\s.1<e)/\0<=s.2/\s.2<t
instance (e t:Int) (s:P2):Decidable (mP e t s):=by unfold mP;infer_instance
def bV(e t:Int)(tb:Tb):Prop:=(tb.map (·.1)).Nodup/\∀ r∈tb,mP e t r.1
theorem O2(tb:Tb)(s:P2)(w:S2):(gv tb s w).length<=tb.length+1:=by unfold gv;split<;>simp
theorem bV.put(h:bV e t tb)(hs:mP e t s):bV e t (gv tb s w):=by
 unfold gv;split
 .refine⟨?_,λr hr=>?_⟩
  .have:(tb.map λr=>if r.1=s then (r.1,w) else r).map (·.1)=tb.map (·.1):=by rw[ZH];refine aaA λr _=>?_;show (if r.1=s then (r.1,w) else r).1=r.1;split<;>rfl
   rw[this];exact h.1
  .obtain⟨x,hx,rfl⟩:=YI.mp hr;have:=h.2 x hx;split<;>exact this
 .rename_i z;refine⟨?_,λr hr=>?_⟩
  .rw[Z1];refine EK h.1 λy=>z ?_;obtain⟨x,hx,e⟩:=YI.mp y;rw[aai];exact⟨x,hx,by simpa using e⟩
  .rcases Y3.mp hr with y|y
   .exact h.2 r y
   .rw[Zc.mp y];exact hs
theorem bV.drop(h:bV e t tb):bV e t (lA tb s) :=
 ⟨h.1.sublist ((abE).map _),λr hr=>h.2 r (Y4.mp hr).1⟩
theorem bV.nil:bV e t []:=⟨ac0,λr h=>by cases h⟩
noncomputable def jG(tb:Tb):List (List Int):=tb.map λr=>[r.1.1,r.1.2]
noncomputable def lB(tb:Tb):Tb:=dq (jG tb) ((0,0),(none,none)) tb
theorem uO(h:r∈lB tb):r∈tb:=ox.mem_iff.mp h
theorem oI:(lB tb).length=tb.length:=Es
theorem az.sort(h:az R xs as):az R (dq kis .non xs) (dq kis d as):=by
 have hl:=h.len;have hp:=(ou (n:=xs.length) (mK kis)).1;unfold dq;rw[<- hl];have gen:∀ l:List Nat,(∀ i∈l,i<xs.length)->az R (l.map λi=>xs.getD i .non) (l.map λi=>as.getD i d):=by
  intro l
  induction l with
  | nil=>intro _;exact trivial
  | cons i l ih =>
   intro q;have hi:=q i (.head _);obtain⟨s,es,hs⟩:=h.get (Ys hi);refine⟨?_,ih λj hj=>q j (.tail _ hj)⟩;show R (xs.getD i .non) (as.getD i d);rw[Yr,Yr,es,Ys hi];exact hs
 exact gen _ λi hi=>by simpa using hp.mem_iff.mp hi
theorem az.bind:∀ {xs:List V} {bs:List β},az R xs (bs.map f)->az (λx b=>R x (f b)) xs bs
 | [],[],_=>trivial
 | _::_,_::_,h=>⟨h.1,az.bind h.2⟩
 | [],_::_,h=>h.elim
 | _::_,[],h=>h.elim
theorem az.Fg:∀ {xs:List V} {bs:List β},az (λx b=>R x (f b)) xs bs->az R xs (bs.map f)
 | [],[],_=>trivial
 | _::_,_::_,h=>⟨h.1,az.Fg h.2⟩
 | [],_::_,h=>h.elim
 | _::_,[],h=>h.elim
theorem O3(h:a8 H kvs tb):kvs.map (·.1)=(jG tb).map λk=>k.map adp:=by rw[h.keys];unfold jG;rw[ZH];rfl
theorem O4:∀ k∈jG tb,k≠[]:=λk hk=>by
 obtain⟨r,_,rfl⟩:=YI.mp hk;exact λz=>nomatch z
theorem O5(h:a8 H kvs tb)(hk:gV H ys kvs):az (λx (r:P2 × S2)=>aR H x r.1) (dq (jG tb) .non ys) (lB tb):=az.sort (az.bind (h.qN hk))
def jH(H:Hp)(v:V)(r:P2 × S2):Prop:=∃ a w,v = .ref a/\H a=some (.tup [.int r.1.1,.int r.1.2,w])/\aK H w r.2.1 r.2.2
theorem jH.same(h:jH H v r)(s:aj H H'):jH H' v r:=let ⟨a,w,e,ha,hw⟩:=h;⟨a,w,e,s _ _ ha,hw.same s⟩
theorem O6(h:aW a b=true):aW (dt a c) (dw b d)=true:=by rcases a with _|x<;>rcases b with _|y<;>rcases c with _|z<;>rcases d with _|w<;>simp[aW,dt,dw] at h ⊢<;>lia
noncomputable def aY(e:S2)(ss:List S2):S2:=ss.foldl (λe s=>(dt e.1 s.1,dw e.2 s.2)) e
theorem uP(e s:S2)(ss:List S2):aY e (s::ss)=aY (dt e.1 s.1,dw e.2 s.2) ss:=rfl
theorem Fh:∀ (ss:List S2) {e:S2},aW e.1 e.2=true->aW (aY e ss).1 (aY e ss).2=true
 | [],_,h=>h
 | s::ss,e,h=>by rw[uP];exact Fh ss (O6 h)
theorem O7(h:aW (aY e (ss.take i)).1 (aY e (ss.take i)).2=true):aW (aY e ss).1 (aY e ss).2=true:=by
 have:aY e ss=aY (aY e (ss.take i)) (ss.drop i):=by unfold aY;rw[<- adj,aaK]
 rw[this];exact Fh _ h
theorem O8{ss:List S2}{e s:S2}{i:Nat}(h:ss[i]?=some s):aY e (ss.take (i+1))=(dt (aY e (ss.take i)).1 s.1,dw (aY e (ss.take i)).2 s.2):=by unfold aY;rw[ZI,h,adj];rfl
noncomputable def fb(e:S2)(ss:List S2):W2:=if aW (aY e ss).1 (aY e ss).2=true then none else some (aY e ss)
theorem lC:∀ {xs:List V} {ss:List S2},lz H xs ss↔az (λx s=>aK H x s.1 s.2) xs ss
 | [],[]=>Iff.rfl
 | _::_,_::_=>and_congr Iff.rfl lC
 | [],_::_=>Iff.rfl
 | _::_,[]=>Iff.rfl
abbrev Pa:=Str × Int × S2
def iQ(H:Hp)(v:V)(p:Pa):Prop:=∃ (t q:YC),v = .ref t/\H t=some (.tup [.str p.1,.int p.2.1,.ref q])/\H q=some (.tup [ev p.2.2.1,ev p.2.2.2])
theorem iQ.same(h:iQ H v p)(s:aj H H'):iQ H' v p:=let ⟨t,q,e,a,b⟩:=h;⟨t,q,e,s _ _ a,s _ _ b⟩
abbrev dF(H:Hp):List V->List Pa->Prop:=az (iQ H)
theorem dF.same(h:dF H xs ps)(s:aj H H'):dF H' xs ps:=az.imp (λ_ _ r=>r.same s) h
theorem iQ.fr(h:iQ H v p)(hr:H r=some (.lst ys)):iQ (upd H r o) v p:=by
 obtain⟨t,q,e,a,b⟩:=h;have h1:t≠r:=λz=>by rw[z,hr] at a;cases a
 have h2:q≠r:=λz=>by rw[z,hr] at b;cases b
 exact⟨t,q,e,by rw[aD h1];exact a,by rw[aD h2];exact b⟩
theorem dF.put(h:dF H xs ps)(hr:H r=some (.lst ys)):dF (upd H r o) xs ps:=az.imp (λ_ _ x=>x.fr hr) h
noncomputable def jI(k:Str)(t:Int)(p:Pa):Bool:=decide (p.1=k) && decide (p.2.1=t)
noncomputable def sel(ps:List Pa)(k:Str)(t:Int):List S2:=(ps.filter (jI k t)).map (·.2.2)
noncomputable def hasB(n:Int)(k:Str)(t:Int):Bool:=if k = "step" then decide (0<=t/\t<n) && decide (0<=t+1/\t+1<n) else decide (k = "at") && decide (0<=t/\t<n)
def fc(n:Int)(ps:List Pa):Prop:=∀ p∈ps,hasB n p.1 p.2.1=true
theorem O9{n t:Int}{k:Str}(h:k ≠ "step"):hasB n k t=true↔k = "at" /\ 0<=t/\t<n:=by unfold hasB;rw[if_neg h];simp only[Z5,decide_eq_true_eq]
theorem int_at{cs:List Int}{t:Int}(h0:0<=t)(h1:t<(cs.length:Int)):cC (cs.map V.int) t=some (.int (cs.getD t.toNat 0)):=by
 have e:t=((t.toNat:Nat):Int):=by lia
 refine (congrArg (cC _) e).trans (cZ ?_);rw[YG,Yr,Ys (by lia)];rfl
structure Gd(n:Nat)(d:acP):Prop where
 eqv:aag d d=true
 lay:d.canLay0=true
 dep:d.depth<=n
theorem Gd.of(h:gR n d=true):Gd n d:=let ⟨a,b,c⟩:=Ea d h;⟨a,b,c⟩
theorem Gd.all:∀ {ds:List acP} {n:Nat},(∀ d∈ds,Gd n d)->aa1 ds ds=true/\ab0 ds=true/\abd ds<=n
 | [],n,_=>⟨rfl,rfl,YS _⟩
 | d::ds,n,h=>by obtain⟨a,b,c⟩:=h d (.head _);obtain⟨a',b',c'⟩:=Gd.all (ds:=ds) λx hx=>h x (.tail _ hx);exact⟨by simp only[aa1,a,a',adx],by simp only[ab0,b,b',adx],by simp only[abd];lia⟩
theorem Gd.lst(h:∀ d∈ds,Gd n d):Gd (n+1) (.list ds):=by obtain⟨a,b,c⟩:=Gd.all h;exact⟨by simpa only [aag] using a,by simpa only [ael] using b,by simp only[PyData.depth];lia⟩
theorem yk{K:Yp}{H:Hp}{x y:V}{d:acP}{n:Nat}{neg:Bool}{Q:VK}(hx:Dat K H x d)(hy:Dat K H y d)(g:Gd n d)(hn:n<=60)(q:Q (.bl (!neg)) H):xZ K neg x y H Q:=by refine⟨d,d,hx,hy,g.lay,g.lay,Yw g.dep hn,?_⟩;rw[g.eqv];cases neg<;>exact q
theorem jF.ym{α:Type}{K:Yp}{H:Hp}{R:V->α->Prop}{f:α->acP}(h:∀ v a,R v a->Dat K H v (f a)):∀ {xs:List V} {as:List α},az R xs as->jF K H xs (as.map f)
 | [],[],_=>.nil
 | _::_,_::_,r=>.cons (h _ _ r.1) (jF.ym h r.2)
 | [],_::_,r=>r.elim
 | _::_,[],r=>r.elim
theorem oJ(bE:Ok H):∀ {xs:List V} {as:List α} {ys:List V},az R xs as ->
 (∀ x a,R x a->∀ Q,Q (p a) H->tt (some x::ρ) H Q)->(∀ x a,p a=true->R x a->∀ Q:VK,(∀ y,R' y (f a)->Q y H)->te (some x::ρ) H Q)->(∀ zs,az R' zs ((as.filter p).map f)->Q' (ys++zs) H)->dZ Ok ρ tt te xs ys H Q'
 | [],[],ys,_,_,_,q=>⟨bE,by simpa using q [] trivial⟩
 | x::xs,a::as,ys,h,ht,he,q=>by
  refine⟨bE,ht x a h.1 _ ?_⟩;by_cases hb:p a=true
  .rw[if_pos hb];refine he x a hb h.1 _ λy ry=>oJ bE h.2 ht he λzs hz=>?_;have:=q (y::zs) (by rw[Za,if_pos hb];exact⟨ry,hz⟩);simpa using this
  .rw[if_neg hb];refine oJ bE h.2 ht he λzs hz=>q zs ?_;rw[Za,if_neg hb];exact hz
 | [],_::_,_,h,_,_,_=>h.elim
 | _::_,[],_,h,_,_,_=>h.elim
theorem Pb{K:Yp}{i j k:Nat}{p:YC}{x y z:V}{σ:L2.St}{H:Hp}{Q:L2.St->Hp->Prop}(h:ah K H p [x,y,z])(q:Q (((σ.set i (some x)).set j (some y)).set k (some z)) H):j7 K 3 (cR (cj i) (cR (cj j) (cR (cj k) ji))) (.ref p) σ H Q :=
 ⟨p,_,rfl,h,rfl,_,_,rfl,_,_,rfl,_,_,rfl,rfl,q⟩
end Gz
namespace Gz
open PySem L2
def bD(s:S2)(x:Int):Prop:=(∀ a,s.1=some a->a<=x)/\∀ b,s.2=some b->x<=b
def c8(w:W2)(x:Int):Prop:=∃ s,w=some s/\bD s x
theorem yn:bD s x↔hold s.1 s.2 x=true:=uG.symm
theorem yo:bD (dt a.1 b.1,dw a.2 b.2) x↔bD a x/\bD b x:=by obtain⟨a1,a2⟩:=a;obtain⟨b1,b2⟩:=b;unfold bD;rcases a1 with _|p<;>rcases a2 with _|q<;>rcases b1 with _|r<;>rcases b2 with _|s<;>simp[dt,dw]<;>(try split)<;>(try split)<;>lia
theorem Fi:∀ {e:S2},bD (aY e ss) x↔bD e x/\∀ s∈ss,bD s x:=by
 induction ss with
 | nil=>intro e;exact⟨λh=>⟨h,λ_ z=>nomatch z⟩,λh=>h.1⟩
 | cons s ss ih =>
  intro e;rw[uP,ih,yo];simp only[YK,forall_eq_or_imp,and_assoc]
theorem Pc(h:aW s.1 s.2=false):∃ x,bD s x:=by
 obtain⟨a,b⟩:=s;rcases a with _|a<;>rcases b with _|b
 .exact⟨0,λ_ z=>(nomatch z),λ_ z=>(nomatch z)⟩
 .exact⟨b,λ_ z=>(nomatch z),λ_ z=>by cases z;exact Zv _⟩
 .exact⟨a,λ_ z=>by cases z;exact Zv _,λ_ z=>(nomatch z)⟩
 .refine⟨a,λ_ z=>by cases z;exact Zv _,λ_ z=>?_⟩;cases z;simp[aW] at h;exact h
theorem Fj(h:bD s x):aW s.1 s.2=false:=by
 obtain⟨a,b⟩:=s;rcases a with _|a<;>rcases b with _|b
 .rfl
 .rfl
 .rfl
 .have h1:=h.1 a rfl;have h2:=h.2 b rfl;simp[aW];lia
noncomputable def gX(a b:S2):W2:=if aW (dt a.1 b.1) (dw a.2 b.2)=true then none else some (dt a.1 b.1,dw a.2 b.2)
theorem oK:c8 (gX a b) x↔bD a x/\bD b x:=by
 unfold gX;constructor
 .rintro ⟨s,e,h⟩;split at e
  .cases e
  .cases e;exact yo.mp h
 .intro h;have h:=yo.mpr h;rw[if_neg (by rw[Fj h];simp)];exact⟨_,rfl,h⟩
theorem Fl(h:gX a b=some s):aW s.1 s.2=false:=by
 unfold gX at h;split at h
 .cases h
 .rename_i hc;cases h;simpa using hc
theorem yq:c8 (fb (none,none) ss) x ↔ ∀ s∈ss,bD s x:=by
 have e0:bD (none,none) x:=⟨λ_ z=>(nomatch z),λ_ z=>(nomatch z)⟩
 unfold fb;constructor
 .rintro ⟨s,e,h⟩;split at e
  .cases e
  .cases e;exact (Fi.mp h).2
 .intro h;have h:=Fi.mpr ⟨e0,h⟩;rw[if_neg (by rw[Fj h];simp)];exact⟨_,rfl,h⟩
noncomputable def eN(s:S2)(p:P2):S2:=(s.1.map (· + p.1),s.2.map (· + p.2))
theorem yr(h:bD s x)(h1:p.1<=y-x)(h2:y-x<=p.2):bD (eN s p) y:=by
 obtain⟨a,b⟩:=s;refine⟨λz e=>?_,λz e=>?_⟩
 .obtain⟨a,ea,rfl⟩:=Y6.mp (show a.map (· + p.1)=some z from e);have:=h.1 a ea;lia
 .obtain⟨b,eb,rfl⟩:=Y6.mp (show b.map (· + p.2)=some z from e);have:=h.2 b eb;lia
theorem Pd(hs:aW s.1 s.2=false)(hp:p.1<=p.2)(h:bD (eN s p) y):∃ x,bD s x/\p.1<=y-x/\y-x<=p.2:=by
 obtain⟨a,b⟩:=s;rcases a with _|a<;>rcases b with _|b
 .exact⟨y-p.1,⟨λ_ z=>(nomatch z),λ_ z=>(nomatch z)⟩,by lia,by lia⟩
 .have h2:=h.2 (b+p.2) rfl;exact⟨y-p.2,⟨λ_ z=>(nomatch z),λ_ z=>by cases z;lia⟩,by lia,by lia⟩
 .have h1:=h.1 (a+p.1) rfl;exact⟨y-p.1,⟨λ_ z=>by cases z;lia,λ_ z=>(nomatch z)⟩,by lia,by lia⟩
 .have h1:=h.1 (a+p.1) rfl;have h2:=h.2 (b+p.2) rfl;simp[aW] at hs;by_cases hc:a<=y-p.2
  .exact⟨y-p.2,⟨λ_ z=>by cases z;lia,λ_ z=>by cases z;lia⟩,by lia,by lia⟩
  .exact⟨a,⟨λ_ z=>by cases z;lia,λ_ z=>by cases z;lia⟩,by lia,by lia⟩
noncomputable def a9(bx:Nat->W2)(st:Nat->P2):Nat->W2
 | 0=>bx 0
 | t+1=>match bx (t+1),a9 bx st t with
  | some b,some k=>gX b (eN k (st t))
  | _,_=>none
def qO(w:W2):Prop:=∀ s,w=some s->aW s.1 s.2=false
theorem uQ(h0:qO (bx 0)):∀ t,qO (a9 bx st t)
 | 0=>h0
 | t+1=>λs e=>by
  unfold a9 at e;split at e
  .exact Fl e
  .cases e
theorem Fo(h:a9 bx st (t+1)=some s):∃ b k,bx (t+1)=some b/\a9 bx st t=some k/\gX b (eN k (st t))=some s:=by
 unfold a9 at h;split at h
 .rename_i b k e1 e2;exact⟨b,k,e1,e2,h⟩
 .cases h
theorem Fp{bx:Nat->W2}{st:Nat->P2}{c:Nat->Int}{n:Nat}(hb:∀ t,t<=n->c8 (bx t) (c t))(hs:∀ t,t<n->(st t).1<=c (t+1)-c t/\c (t+1)-c t<=(st t).2):∀ t,t<=n->c8 (a9 bx st t) (c t)
 | 0,h=>hb 0 h
 | t+1,h=>by obtain⟨k,ek,hk⟩:=Fp hb hs t (by lia);obtain⟨b,eb,yt⟩:=hb (t+1) h;obtain⟨h1,h2⟩:=hs t (by lia);unfold a9;rw[eb,ek];exact oK.mpr ⟨yt,yr hk h1 h2⟩
theorem yu:∀ {t:Nat},c8 (a9 bx st t) x->c8 (bx t) x
 | 0,h=>h
 | t+1,⟨s,e,h⟩=>by obtain⟨b,k,e1,_,e3⟩:=Fo e;exact⟨b,e1,(oK.mp ⟨s,e3,h⟩).1⟩
theorem Fq(h0:qO (bx 0))(hp:(st t).1<=(st t).2)(h:c8 (a9 bx st (t+1)) y):∃ x,c8 (a9 bx st t) x/\(st t).1<=y-x/\y-x<=(st t).2:=by obtain⟨s,e,h⟩:=h;obtain⟨b,k,_,e2,e3⟩:=Fo e;obtain⟨x,hx,h1,h2⟩:=Pd (uQ h0 t k e2) hp (oK.mp ⟨s,e3,h⟩).2;exact⟨x,⟨k,e2,hx⟩,h1,h2⟩
noncomputable def gY(n:Nat)(st:Nat->P2)(t:Nat):P2:=(-(st (n-1-t)).2,-(st (n-1-t)).1)
noncomputable def fP(n:Nat)(bx:Nat->W2)(st:Nat->P2)(t:Nat):W2:=a9 (λk=>a9 bx st (n-k)) (gY n st) (n-t)
structure uR(n:Nat)(bx:Nat->W2)(st:Nat->P2):Prop where
 ok:∀ t,t<=n->∃ s,fP n bx st t=some s/\aW s.1 s.2=false
 sub:∀ t x,t<=n->c8 (fP n bx st t) x->c8 (bx t) x
 next:∀ t x,t<n->c8 (fP n bx st t) x->∃ y,c8 (fP n bx st (t+1)) y/\(st t).1<=y-x/\y-x<=(st t).2
theorem Pe(h0:qO (bx 0))(hp:∀ t,t<n->(st t).1<=(st t).2)(hf:∀ t,t<=n->a9 bx st t≠none):uR n bx st:=by
 have yw:=uQ (st:=st) h0;have Pf:∀ k,k<=n->∃ s,a9 (λk=>a9 bx st (n-k)) (gY n st) k=some s:=by
  intro k
  induction k with
  | zero =>
   intro _;obtain⟨s,e⟩:=acL.mp (hf n (Yz _));exact⟨s,e⟩
  | succ k ih =>
   intro hk;obtain⟨s,e⟩:=ih (by lia);obtain⟨y,hy⟩:=Pc (uQ (bx:=λk=>a9 bx st (n-k)) (yw n) k s e);have Fs:c8 (a9 bx st (n-k)) y:=yu (bx:=λk=>a9 bx st (n-k)) ⟨s,e,hy⟩;rw[show n-k=n-(k+1)+1 by lia] at Fs;obtain⟨x,⟨f,ef,hx⟩,h1,h2⟩:=Fq h0 (hp _ (by lia)) Fs;have em:n-1-k=n-(k+1):=by lia
   have hm:bD (eN s (gY n st k)) x:=yr hy (by unfold gY;rw[em];dsimp only;lia) (by unfold gY;rw[em];dsimp only;lia);obtain⟨z,ez,_⟩:=oK.mpr ⟨hx,hm⟩;refine⟨z,?_⟩;unfold a9;rw[e];show (match a9 bx st (n-(k+1)),some s with
    | some b,some Pg=>gX b (eN Pg (gY n st k))
    | _,_=>none)=some z
   rw[ef];exact ez
 refine⟨λt ht=>?_,λt x ht h=>?_,λt x ht h=>?_⟩
 .obtain⟨s,e⟩:=Pf (n-t) (by lia);exact⟨s,e,uQ (bx:=λk=>a9 bx st (n-k)) (yw n) _ s e⟩
 .have:=yu (bx:=λk=>a9 bx st (n-k)) h;rw[show n-(n-t)=t by lia] at this;exact yu this
 .unfold fP at h;rw[show n-t=n-(t+1)+1 by lia] at h;have hb:(gY n st (n-(t+1))).1<=(gY n st (n-(t+1))).2:=by unfold gY;have:=hp (n-1-(n-(t+1))) (by lia);dsimp only;lia
  obtain⟨y,hy,h1,h2⟩:=Fq (bx:=λk=>a9 bx st (n-k)) (yw n) hb h;have em:n-1-(n-(t+1))=t:=by lia
  unfold gY at h1 h2;rw[em] at h1 h2;dsimp only at h1 h2;exact⟨y,hy,by lia,by lia⟩
def gZ(ps:List P2)(c:Nat->Int):Prop:=∀ k,k<ps.length->(aE ps k).1<=c (k+1)-c k/\c (k+1)-c k<=(aE ps k).2
theorem yy(h:gZ ps c):∀ n,i+n<=ps.length->pre (·.1) ps (i+n)-pre (·.1) ps i<=c (i+n)-c i/\c (i+n)-c i<=pre (·.2) ps (i+n)-pre (·.2) ps i
 | 0,_=>by simp
 | n+1,hn=>by have ih:=yy h (i:=i) n (by lia);have hk:=h (i+n) (by lia);rw[show i+(n+1)=(i+n)+1 by lia,fK _ ps (by lia),fK _ ps (by lia)];lia
theorem Ph(h:gZ ps c)(hi:i<=ps.length)(hj:j<=ps.length):c j-c i<=bw ps i j:=by
 unfold bw;split
 .have:=(yy h (i:=i) (j-i) (by lia)).2
  rwa [show i+(j-i)=j by lia] at this
 .have:=(yy h (i:=j) (i-j) (by lia)).1;rw[show j+(i-j)=i by lia] at this;lia
abbrev Mk:=Nat × S2
def meets(ms:List Mk)(c:Nat->Int):Prop:=∀ m∈ms,bD m.2 (c m.1)
structure kA(ps:List P2)(ms:List Mk)(tp:Nat->Option P2):Prop where
 val:∀ t v k,t<=ps.length->tp t=some (v,k)->∃ (i:Nat) (m:Mk) (h:Int),k=(i:Int)/\ms[i]?=some m/\m.2.2=some h/\h+bw ps m.1 t<=v
 top:∀ m∈ms,∀ h,m.2.2=some h->∃ v k,tp m.1=some (v,k)/\v<=h
 fwd:∀ t v k,t<ps.length->tp t=some (v,k)->∃ v' k',tp (t+1)=some (v',k')/\v'<=v+(aE ps t).2
 bwd:∀ t v k,t<ps.length->tp (t+1)=some (v,k)->∃ v' k',tp t=some (v',k')/\v'<=v-(aE ps t).1
def qP(ms:List Mk)(tp:Nat->Option P2):Prop:=∀ m∈ms,∀ l v k,m.2.1=some l->tp m.1=some (v,k)->l<=v
theorem Pj(hp:d8 ps)(hm:∀ m∈ms,m.1<=ps.length)(T:kA ps ms tp)(hn:qP ms tp):∃ c,gZ ps c/\meets ms c:=by
 by_cases h0:tp 0=none
 .have Pk:∀ t,t<=ps.length->tp t=none:=by
   intro t
   induction t with
   | zero=>intro _;exact h0
   | succ t ih =>
    intro ht;cases e:tp (t+1) with
    | none=>rfl
    | some q =>
     obtain⟨v,k⟩:=q;obtain⟨v',k',e',_⟩:=T.bwd t v k (by lia) e;rw[ih (by lia)] at e';cases e'
  have Pl:∀ m∈ms,m.2.2=none:=λm cO=>by
   cases e:m.2.2 with
   | none=>rfl
   | some h =>
    obtain⟨v,k,e',_⟩:=T.top m cO h e;rw[Pk m.1 (hm m cO)] at e';cases e'
  have big:∀ (l:List Mk),∃ M:Int,∀ m∈l,∀ a,m.2.1=some a->a<=M+pre (·.1) ps m.1:=by
   intro l
   induction l with
   | nil=>exact⟨0,λ_ z=>nomatch z⟩
   | cons m l ih =>
    obtain⟨M,hM⟩:=ih;cases e:m.2.1 with
    | none =>
     refine⟨M,λq hq a ha=>?_⟩;rcases YK.mp hq with rfl|hq
     .rw[e] at ha;cases ha
     .exact hM q hq a ha
    | some b =>
     refine⟨if M<=b-pre (·.1) ps m.1 then b-pre (·.1) ps m.1 else M,λq hq a ha=>?_⟩;rcases YK.mp hq with rfl|hq
     .rw[e] at ha;cases ha;split<;>lia
     .have:=hM q hq a ha;split<;>lia
  obtain⟨M,hM⟩:=big ms;refine⟨λt=>M+pre (·.1) ps t,λk hk=>?_,λm cO=>⟨λa ha=>hM m cO a ha,λb hb=>?_⟩⟩
  .have:=hp _ (oq hk);dsimp only;rw[fK _ ps hk];lia
  .rw[Pl m cO] at hb;cases hb
 .have Ft:∀ t,t<=ps.length->∃ v k,tp t=some (v,k):=by
   intro t
   induction t with
   | zero =>
    intro _;obtain⟨⟨v,k⟩,e⟩:=acL.mp h0;exact⟨v,k,e⟩
   | succ t ih =>
    intro ht;obtain⟨v,k,e⟩:=ih (by lia);obtain⟨v',k',e',_⟩:=T.fwd t v k (by lia) e;exact⟨v',k',e'⟩
  refine⟨λt=>((tp t).map (·.1)).getD 0,λk hk=>?_,λm cO=>⟨λa ha=>?_,λb hb=>?_⟩⟩
  .obtain⟨v,q,e⟩:=Ft k (by lia);obtain⟨v',q',e',h1⟩:=T.fwd k v q hk e;obtain⟨v2,q2,e2,h2⟩:=T.bwd k v' q' hk e';rw[e] at e2;cases e2;dsimp only;rw[e,e'];simp only[Option.map_some,abx];lia
  .obtain⟨v,q,e⟩:=Ft m.1 (hm m cO);have:=hn m cO a v q ha e;dsimp only;rw[e];exact this
  .obtain⟨v,q,e,h1⟩:=T.top m cO b hb;dsimp only;rw[e];exact h1
def clash(ps:List P2)(a b:Mk):Prop:=∃ h l,a.2.2=some h/\b.2.1=some l/\h+bw ps a.1 b.1<l
theorem Pm(hc:gZ ps c)(hm:meets ms c)(ht:∀ m∈ms,m.1<=ps.length)(ha:a∈ms)(hb:b∈ms):¬ clash ps a b:=by rintro ⟨h,l,e1,e2,aT⟩;have h1:=(hm a ha).2 h e1;have h2:=(hm b hb).1 l e2;have h3:=Ph hc (ht a ha) (ht b hb);lia
noncomputable def fe(a b:P2):Bool:=decide (a.1<b.1) || (decide (a.1=b.1) && decide (a.2<b.2))
noncomputable def ff(a b:P2):P2:=if fe b a=true then b else a
noncomputable def jJ:Option P2->Option P2->Option P2
 | none,b=>b
 | some a,none=>some a
 | some a,some b=>some (ff a b)
theorem yz(a b:P2):(ff a b=a∨ff a b=b)/\(ff a b).1<=a.1/\(ff a b).1<=b.1:=by
 unfold ff fe;split
 .rename_i h;simp only[acA,Z5,decide_eq_true_eq] at h;exact⟨.inr rfl,by lia,by lia⟩
 .rename_i h;simp only[acA,Z5,decide_eq_true_eq,not_or,not_and] at h;exact⟨.inl rfl,by lia,by lia⟩
theorem Fu(a b:Option P2):jJ a b=a∨jJ a b=b:=by
 rcases a with _|a<;>rcases b with _|b
 .exact .inl rfl
 .exact .inr rfl
 .exact .inl rfl
 .show some (ff a b)=some a∨some (ff a b)=some b;rcases (yz a b).1 with h|h<;>rw[h]
  .exact .inl rfl
  .exact .inr rfl
def eO(a:Option P2)(v:Int):Prop:=∃ w k,a=some (w,k)/\w<=v
theorem Pn(h:eO a v):eO (jJ a b) v:=by
 obtain⟨w,k,rfl,hw⟩:=h;rcases b with _|b
 .exact⟨w,k,rfl,hw⟩
 .have:=(yz (w,k) b).2.1;exact⟨(ff (w,k) b).1,(ff (w,k) b).2,rfl,by dsimp only at this;lia⟩
theorem yA(h:eO b v):eO (jJ a b) v:=by
 obtain⟨w,k,rfl,hw⟩:=h;rcases a with _|a
 .exact⟨w,k,rfl,hw⟩
 .have:=(yz a (w,k)).2.2;exact⟨(ff a (w,k)).1,(ff a (w,k)).2,rfl,by dsimp only at this;lia⟩
noncomputable def oM(a:Option P2)(Po:Int):Option P2:=a.map λq=>(q.1+Po,q.2)
theorem Fv(h:eO a v):eO (oM a b) (v+b):=by obtain⟨w,k,rfl,hw⟩:=h;exact⟨w+b,k,rfl,by lia⟩
def fQ(ps:List P2)(ms:List Mk)(t:Nat)(a:Option P2):Prop:=∀ v k,a=some (v,k)->∃ (i:Nat) (m:Mk) (h:Int),k=(i:Int)/\ms[i]?=some m/\m.2.2=some h/\h+bw ps m.1 t<=v
theorem fQ.yB(ha:fQ ps ms t a)(hb:fQ ps ms t b):fQ ps ms t (jJ a b):=by
 rcases Fu a b with h|h<;>rw[h]
 .exact ha
 .exact hb
theorem Pq(ps:List P2)(t:Nat):bw ps t t=0:=by unfold bw;rw[if_pos (Yz _)];lia
theorem Pr(h:t<ps.length):bw ps t (t+1)=(aE ps t).2:=by unfold bw;rw[if_pos (acx _),fK _ ps h];lia
theorem Pt(h:t<ps.length):bw ps (t+1) t = -(aE ps t).1:=by unfold bw;rw[if_neg (by lia),fK _ ps h];lia
theorem fQ.lift(hp:d8 ps)(hm:∀ m∈ms,m.1<=ps.length)(ht:t<=ps.length)(hu:u<=ps.length)(hb:bw ps t u=b)(h:fQ ps ms t a):fQ ps ms u (oM a b):=by intro v k e;obtain⟨⟨w,q⟩,ea,e⟩:=Y6.mp e;cases e;obtain⟨i,m,x,e1,e2,e3,hx⟩:=h w q ea;refine⟨i,m,x,e1,e2,e3,?_⟩;have:=Ox hp (hm m (YF e2)) hu ht;dsimp only;lia
noncomputable def jK(tp:Nat->Option P2)(i:Nat)(x:Option P2):Nat->Option P2:=λt=>if t=i then x else tp t
theorem mQ:jK tp i x i=x:=if_pos rfl
theorem kB(h:t≠i):jK tp i x t=tp t:=if_neg h
theorem Fw(h:∀ t,t<=ps.length->fQ ps ms t (tp t))(hx:fQ ps ms i x):∀ t,t<=ps.length->fQ ps ms t (jK tp i x t):=λt ht=>by
 by_cases e:t=i
 .subst e;rw[mQ];exact hx
 .rw[kB e];exact h t ht
theorem uS(h:eO (tp t) v):eO (jK tp i (jJ (tp i) b) t) v:=by
 by_cases e:t=i
 .subst e;rw[mQ];exact Pn h
 .rw[kB e];exact h
structure T1(ps:List P2)(ms:List Mk)(j:Nat)(tp:Nat->Option P2):Prop where
 val:∀ t,t<=ps.length->fQ ps ms t (tp t)
 top:∀ m∈ms.take j,∀ h,m.2.2=some h->eO (tp m.1) h
theorem T1.nil:T1 ps ms 0 λ_=>none:=⟨λ_ _ _ _ e=>(nomatch e),λ_ h=>by simp at h⟩
theorem T1.skip(T:T1 ps ms j tp)(hm:ms[j]?=some m)(hn:m.2.2=none):T1 ps ms (j+1) tp:=⟨T.val,λq hq h e=>by
 rw[ZI,hm] at hq;rcases Y3.mp hq with z|z
 .exact T.top q z h e
 .obtain rfl:q=m:=by simpa using z
  rw[hn] at e;cases e⟩
theorem T1.put(T:T1 ps ms j tp)(hm:ms[j]?=some m)(hh:m.2.2=some h):T1 ps ms (j+1) (jK tp m.1 (jJ (tp m.1) (some (h,(j:Int))))):=by
 have hv:fQ ps ms m.1 (some (h,(j:Int))):=λv k e=>by cases e;exact⟨j,m,h,rfl,hm,hh,by rw[Pq];lia⟩
 refine⟨λt ht=>?_,λq hq x e=>?_⟩
 .by_cases e:t=m.1
  .subst e;rw[mQ];exact (T.val _ ht).yB hv
  .rw[kB e];exact T.val t ht
 .rw[ZI,hm] at hq;rcases Y3.mp hq with z|z
  .exact uS (T.top q z x e)
  .obtain rfl:q=m:=by simpa using z
   rw[hh] at e;cases e;rw[mQ];exact yA ⟨h,j,rfl,Zv _⟩
structure T2(ps:List P2)(ms:List Mk)(j:Nat)(tp:Nat->Option P2):Prop where
 val:∀ t,t<=ps.length->fQ ps ms t (tp t)
 top:∀ m∈ms,∀ h,m.2.2=some h->eO (tp m.1) h
 fwd:∀ t,t<j->∀ v,eO (tp t) v->eO (tp (t+1)) (v+(aE ps t).2)
theorem T1.two(T:T1 ps ms ms.length tp):T2 ps ms 0 tp:=⟨T.val,λm h=>T.top m (by rw[ZR];exact h),λ_ h=>absurd h (aad _)⟩
theorem T2.step(hp:d8 ps)(hm:∀ m∈ms,m.1<=ps.length)(hj:j<ps.length)(T:T2 ps ms j tp):T2 ps ms (j+1) (jK tp (j+1) (jJ (tp (j+1)) (oM (tp j) (aE ps j).2))):=by
 refine⟨Fw T.val ((T.val _ (by lia)).yB ((T.val j (by lia)).lift hp hm (by lia) (by lia) (Pr hj))),λm h x e=>uS (T.top m h x e),λt ht v hv=>?_⟩;rw[kB (by lia)] at hv;by_cases e:t=j
 .subst e;rw[mQ];exact yA (Fv hv)
 .rw[kB (by lia)];exact T.fwd t (by lia) v hv
structure T3(ps:List P2)(ms:List Mk)(j:Nat)(tp:Nat->Option P2):Prop where
 val:∀ t,t<=ps.length->fQ ps ms t (tp t)
 top:∀ m∈ms,∀ h,m.2.2=some h->eO (tp m.1) h
 fwd:∀ t,t<ps.length->∀ v,eO (tp t) v->eO (tp (t+1)) (v+(aE ps t).2)
 bwd:∀ t,j<=t->t<ps.length->∀ v,eO (tp (t+1)) v->eO (tp t) (v-(aE ps t).1)
theorem T2.three(T:T2 ps ms ps.length tp):T3 ps ms ps.length tp:=⟨T.val,T.top,T.fwd,λt h1 h2=>absurd h2 (by lia)⟩
theorem T3.step(hp:d8 ps)(hm:∀ m∈ms,m.1<=ps.length)(hj:j<ps.length)(T:T3 ps ms (j+1) tp):T3 ps ms j (jK tp j (jJ (tp j) (oM (tp (j+1)) (-(aE ps j).1)))):=by
 have h1:=hp _ (oq hj);refine⟨Fw T.val ((T.val _ (by lia)).yB ((T.val (j+1) (by lia)).lift hp hm (by lia) (by lia) (Pt hj))),λm h x e=>uS (T.top m h x e),λt ht v hv=>?_,λt h2 h3 v hv=>?_⟩
 .by_cases e:t=j
  .subst e;rw[mQ] at hv;rw[kB (by lia)];rcases Fu (tp t) (oM (tp (t+1)) (-(aE ps t).1)) with z|z
   .rw[z] at hv;exact T.fwd t ht v hv
   .rw[z] at hv;obtain⟨w,k,e,hw⟩:=hv;obtain⟨⟨w',k'⟩,e1,e2⟩:=Y6.mp e;cases e2;exact⟨w',k',e1,by dsimp only at hw;lia⟩
  .rw[kB e] at hv;exact uS (T.fwd t ht v hv)
 .rw[kB (by lia)] at hv;by_cases e:t=j
  .subst e;rw[mQ];refine yA ?_;have:=Fv (b:=-(aE ps t).1) hv
   rwa [show v + -(aE ps t).1=v-(aE ps t).1 by lia] at this
  .rw[kB e];exact T.bwd t (by lia) h3 v hv
theorem T3.tops(T:T3 ps ms 0 tp):kA ps ms tp :=
 ⟨λt v k ht e=>T.val t ht v k e,T.top,λt v k ht e=>T.fwd t ht v ⟨v,k,e,Zv _⟩,λt v k ht e=>T.bwd t (YS _) ht v ⟨v,k,e,Zv _⟩⟩
theorem kA.clash(T:kA ps ms tp)(hb:b.1<=ps.length)(e:tp b.1=some (v,k))(hl:b.2.1=some l)(hv:v<l):∃ (i:Nat) (a:Mk),k=(i:Int)/\ms[i]?=some a/\clash ps a b:=by obtain⟨i,m,h,e1,e2,e3,h4⟩:=T.val _ v k hb e;exact⟨i,m,e1,e2,h,l,e3,hl,by lia⟩
theorem yC:∀ t,(∀ k,k<=t->bx k=Pu k)->(∀ k,k<t->st k=cz k)->a9 bx st t=a9 Pu cz t
 | 0,h,_=>h 0 (Yz _)
 | t+1,h,hs=>by unfold a9;rw[h (t+1) (Yz _),yC t (λk hk=>h k (by lia)) (λk hk=>hs k (by lia)),hs t (by lia)]
noncomputable def eQ(ws:List W2)(t:Nat):W2:=ws.getD t none
noncomputable def bT(ss:List S2)(t:Nat):S2:=ss.getD t (none,none)
noncomputable def atT(ms:List Mk)(t:Nat):List S2:=(ms.filter λm=>decide (m.1=t)).map (·.2)
noncomputable def b9(ms:List Mk)(t:Nat):W2:=fb (none,none) (atT ms t)
theorem Fx:c8 (b9 ms t) x ↔ ∀ m∈ms,m.1=t->bD m.2 x:=by
 unfold b9;rw[yq];unfold atT;constructor
 .intro h m hm e;exact h _ (YI.mpr ⟨m,Y4.mpr ⟨hm,by simpa using e⟩,rfl⟩)
 .intro h s hs;obtain⟨m,hm,rfl⟩:=YI.mp hs;obtain⟨h1,h2⟩:=Y4.mp hm;exact h m h1 (by simpa using h2)
theorem Pw(ms:List Mk)(t:Nat):qO (b9 ms t):=λs e=>by
 unfold b9 fb at e;split at e
 .cases e
 .rename_i h;cases e;simpa using h
theorem Px(hc:gZ ps c)(hm:meets ms c):∀ t,t<=ps.length->a9 (b9 ms) (aE ps) t≠none:=λt ht e=>by obtain⟨s,es,_⟩:=Fp (bx:=b9 ms) (st:=aE ps) (c:=c) (n:=ps.length) (λt _=>Fx.mpr λm cO e=>by rw[<- e];exact hm m cO) (λt ht=>hc t ht) t ht;rw[e] at es;cases es
theorem Fy(hp:d8 ps)(hf:∀ t,t<=ps.length->a9 (b9 ms) (aE ps) t≠none):uR ps.length (b9 ms) (aE ps):=Pe (Pw ms 0) (λt ht=>hp _ (oq ht)) hf
noncomputable def kC(ps:List P2):List P2:=ps.reverse.map λp=>(-p.2,-p.1)
theorem Py(h:t<ps.length):aE (kC ps) t=gY ps.length (aE ps) t:=by unfold kC gY aE;rw[Yr,YG,aaH h,Yr,Ys (by lia)];rfl
theorem back_eq(hl:ss.length=ps.length+1)(h:∀ t,t<ps.length+1->a9 (b9 ms) (aE ps) t=some (bT ss t))(ht:t<=ps.length):a9 (eQ (ss.reverse.map some)) (aE (kC ps)) t=fP ps.length (b9 ms) (aE ps) (ps.length-t):=by unfold fP;rw[show ps.length-(ps.length-t)=t by lia];refine yC t (λk hk=>?_) λk hk=>Py (by lia);rw[h (ps.length-k) (by lia)];unfold eQ bT;rw[Yr,YG,aaH (by lia),hl,show ps.length+1-1-k=ps.length-k by lia,Yr,Ys (by lia)];rfl
theorem Pz(hl:ss.length=n+1)(ht:t<=n):bT ss.reverse t=bT ss (n-t):=by unfold bT;rw[Yr,aaH (by lia),Yr,hl,show n+1-1-t=n-t by lia]
theorem PB(T:uR ps.length (b9 ms) (aE ps))(ht:t<ps.length)(hx:c8 (fP ps.length (b9 ms) (aE ps) t) x)(hs:fP ps.length (b9 ms) (aE ps) (t+1)=some s):∃ r,gX s (eN (some x,some x) (aE ps t))=some r/\∀ y,bD r y->c8 (fP ps.length (b9 ms) (aE ps) (t+1)) y/\(aE ps t).1<=y-x/\y-x<=(aE ps t).2:=by
 obtain⟨y,⟨s',e',hy⟩,h1,h2⟩:=T.next t x ht hx
 rw[hs] at e';cases e';have xx:bD (some x,some x) x:=⟨λ_ z=>by cases z;exact Zv _,λ_ z=>by cases z;exact Zv _⟩
 obtain⟨r,er,_⟩:=oK.mpr ⟨hy,yr xx h1 h2⟩;refine⟨r,er,λz hz=>?_⟩;obtain⟨z1,z2⟩:=oK.mp ⟨r,er,hz⟩;refine⟨⟨s,hs,z1⟩,?_⟩;have a:=z2.1 (x+(aE ps t).1) rfl;have b:=z2.2 (x+(aE ps t).2) rfl;lia
noncomputable def bo(cs:List Int)(t:Nat):Int:=cs.getD t 0
theorem meets_of(T:uR ps.length (b9 ms) (aE ps))(hm:∀ m∈ms,m.1<=ps.length)(h:∀ t,t<=ps.length->c8 (fP ps.length (b9 ms) (aE ps) t) (c t)):meets ms c:=λm cO=>Fx.mp (T.sub _ _ (hm m cO) (h _ (hm m cO))) m cO rfl
noncomputable def dz(ts:List (Option P2))(t:Nat):Option P2:=ts.getD t none
theorem PD(h:i<ts.length):dz (ts.set i x)=jK (dz ts) i x:=by
 funext t;unfold dz jK;rw[Yr,List.getElem?_set];by_cases e:t=i
 .subst e;rw[if_pos rfl,if_pos rfl,if_pos h];rfl
 .rw[if_neg (λz=>e z.symm),if_neg e];exact (Yr ..).symm
theorem PF(n:Nat):dz (aaL n none)=λ_=>none:=by funext t;unfold dz;rw[Yr,aaZ];split<;>rfl
end Gz
namespace Gz
open PySem PySem.Spec PyProof.Rows L2
noncomputable def rowOf(H:Hp):V->List V
 | .ref p=>match H p with
  | some (.tup xs)=>xs
  | _=>[]
 | _=>[]
theorem qQ(h:H p=some (.tup xs)):rowOf H (.ref p)=xs:=by
 show (match H p with
  | some (.tup xs)=>xs
  | _=>[])=xs
 rw[h]
def mR(row:V->List V)(tt:TT):TT:=λσ H Q=>match σ with
 | some v::ρ=>tt ((row v).map some++ρ) H Q
 | _=>False
def mS(row:V->List V)(te:TE):TE:=λσ H Q=>match σ with
 | some v::ρ=>te ((row v).map some++ρ) H Q
 | _=>False
section
variable{K:Yp}{ρ:L2.St}{tt:TT}{te:TE}{H:Hp}{Q:VK}{a:YC}{xs:List V}{row:V->List V}
def qR(K:Yp)(a:YC)(xs:List V)(row:V->List V)(k:Nat)(H:Hp):Prop:=ai K H a xs/\∀ x∈xs,∃ p,x = .ref p/\ah K H p (row x)/\(row x).length=k
theorem PH{k:Nat}{g:TG}(hg:∀ (p:YC) (ys:List V) (os:List (Option V)) (H:Hp) (Q:L2.St->Hp->Prop),os.length=k->ys.length=k->ah K H p ys->Q (ys.map some++ρ) H->g (.ref p) (os++ρ) H Q)
 (hn:xs.length<=YR) (h:dZ (qR K a xs row k) ρ (mR row tt) (mS row te) xs [] H λzs H'=>∀ l,H' l=none->Q (.ref l) (upd H' l (.lst zs))) :
 jz k (jk K a) g ρ tt te H Q:=by
 refine⟨λi m ys H=>m=xs.length-i/\i<=xs.length/\ys.length<=i/\dZ (qR K a xs row k) ρ (mR row tt) (mS row te) (xs.drop i) ys H λys H'=>∀ l,H' l=none->Q (.ref l) (upd H' l (.lst ys)),⟨_,rfl,YS _,Yz _,h⟩,?_⟩;rintro i m ys H ⟨rfl,hi,hy,c⟩;by_cases aT:i<xs.length
 .have e:=Zs aT;rw[e] at c;obtain⟨⟨c0,c1⟩,c2⟩:=c;have l1:∀ y:V,(ys++[y]).length<=i+1:=λy=>by rw[YO,YY];lia
  have l2:ys.length<=i+1:=by lia
  refine .inr ⟨⟨xs,_,c0,Ys aT⟩,by lia,λzs H'=>zs.length<=i+1/\dZ (qR K a xs row k) ρ (mR row tt) (mS row te) (xs.drop (i+1)) zs H' λys H'=>∀ l,H' l=none->Q (.ref l) (upd H' l (.lst ys)),λzs H' q=>⟨_,by lia,rfl,aT,q.1,q.2⟩,λos qx v H' y=>?_⟩;obtain⟨rfl,ex⟩:=y;have ex:=ex xs c0;rw[Ys aT] at ex;obtain⟨p,ep,hp,hl⟩:=c1 xs[i] (adF _);cases ex;rw[ep] at hp hl c2 ⊢;refine hg p _ os _ _ qx hl hp ⟨(row (.ref p)).map some,by rw[Yq];exact hl,rfl,?_⟩;simp only[l1,l2,true_and];exact c2
 .have e:i=xs.length:=by lia
  subst e;rw[adD] at c;exact .inl ⟨⟨xs,c.1.1,Yz _⟩,by lia,c.2⟩
theorem PJ{p:YC}{ys:List V}{os:List (Option V)}{H:Hp}{Q:L2.St->Hp->Prop}(ho:os.length=3)(hy:ys.length=3)(h:ah K H p ys)(q:Q (ys.map some++ρ) H):j7 K 3 (cR (cj 0) (cR (cj 1) (cR (cj 2) ji))) (.ref p) (os++ρ) H Q:=by
 match os,ho,ys,hy with
 | [o1,o2,o3],_,[x,y,z],_=>exact Pb h q
theorem Fz(hn:xs.length<=YR)(h:dZ (qR K a xs row 3) ρ (mR row tt) (mS row te) xs [] H λzs H'=>∀ l,H' l=none->Q (.ref l) (upd H' l (.lst zs))) :
 jz 3 (jk K a) (j7 K 3 (cR (cj 0) (cR (cj 1) (cR (cj 2) ji)))) ρ tt te H Q:=PH (λ_ _ _ _ _ ho hy h q=>PJ ho hy h q) hn h
end
theorem uT{α β:Type}{R:Hp->V->α->Prop}{R':Hp->V->β->Prop}{Ok:Hp->Prop}{ρ:L2.St}{tt:TT}{te:TE}{p:α->Bool}{f:α->β}{Q':List V->Hp->Prop}(mono:∀ H H' x a,aj H H'->R H x a->R H' x a)(iO:∀ H H' x a,aj H H'->R' H x a->R' H' x a):∀ {xs:List V} {as:List α} {zs:List V} {bs:List β} {H:Hp},az (R H) xs as->az (R' H) zs bs->(∀ H',aj H H'->Ok H') ->
 (∀ x a,a∈as->∀ H',aj H H'->R H' x a->∀ Q:Bool->Hp->Prop,Q (p a) H'->tt (some x::ρ) H' Q)->(∀ x a,a∈as->p a=true->∀ H',aj H H'->R H' x a->∀ Q:VK,(∀ H2 y,aj H' H2->R' H2 y (f a)->Q y H2)->te (some x::ρ) H' Q)->(∀ H' ws,aj H H'->az (R' H') ws (bs++(as.filter p).map f)->Q' ws H')->dZ Ok ρ tt te xs zs H Q'
 | [],[],zs,bs,H,_,hz,bE,_,_,q=>⟨bE H (aj.refl H),q H zs (aj.refl H) (by simpa using hz)⟩
 | x::xs,a::as,zs,bs,H,h,hz,bE,ht,he,q=>by
  refine⟨bE H (aj.refl H),ht x a (.head _) H (aj.refl H) h.1 _ ?_⟩;by_cases hp:p a=true
  .rw[if_pos hp];refine he x a (.head _) hp H (aj.refl H) h.1 _ λH2 y s2 ry=>?_;refine uT mono iO (bs:=bs++[f a]) (h.2.imp λ_ _ r=>mono _ _ _ _ s2 r) ((hz.imp λ_ _ r=>iO _ _ _ _ s2 r).snoc ry) (λH' s'=>bE H' (s2.trans s')) (λx b hb H' s'=>ht x b (.tail _ hb) H' (s2.trans s')) (λx b hb hp H' s'=>he x b (.tail _ hb) hp H' (s2.trans s')) λH' ws s' hw=>q H' ws (s2.trans s') ?_;rw[Za,if_pos hp];simpa using hw
  .rw[if_neg hp];refine uT mono iO h.2 hz bE (λx b hb=>ht x b (.tail _ hb)) (λx b hb hp=>he x b (.tail _ hb) hp) λH' ws s' hw=>q H' ws s' ?_;rw[Za,if_neg hp];exact hw
 | [],_::_,_,_,_,h,_,_,_,_,_=>h.elim
 | _::_,[],_,_,_,h,_,_,_,_,_=>h.elim
theorem PK(ao:List Yy):afG ao.toArray none none (some (-1))=ao.reverse.toArray:=by
 have e1:abC none none (some (-1)) ao.toArray.size=(((ao.length:Nat):Int)-1,-1,-1):=by rw[YD];rfl
 unfold afG;rw[e1];dsimp only;have e2:sliceRange (((ao.length:Nat):Int)-1) (-1) (-1)=(YZ ao.length).map λk=>ao.length-1-k:=by
  unfold sliceRange;have h1:¬ ((-1:Int) > 0):=by lia
  simp only[h1,if_false];by_cases h:ao.length=0
  .rw[h];rfl
  .rw[if_pos (by lia),show (((ao.length:Nat):Int)-1 - -1 - -1-1) / (- -1)=((ao.length:Nat):Int) by
    rw[show (- (-1:Int))=1 by lia,agA];lia,Zm]
   refine aaA λk hk=>?_;have:=Zp.mp hk;lia
 rw[e2]
 congr 1
 refine ab1 λk=>?_;have key:((YZ ao.length).map λk=>ao.length-1-k).filterMap (ao.toArray[·]?)=(YZ ao.length).map λk=>ao.getD (ao.length-1-k) .none:=by
  rw[List.filterMap_map];have:∀ (l:List Nat),(∀ k∈l,k<ao.length)->l.filterMap ((λx=>ao.toArray[x]?) ∘ λk=>ao.length-1-k)=l.map λk=>ao.getD (ao.length-1-k) .none:=by
   intro l
   induction l with
   | nil=>intro _;rfl
   | cons k l ih =>
    intro h;have hk:=h k (.head _);rw[ZF,YV];have e:((λx=>ao.toArray[x]?) ∘ λk=>ao.length-1-k) k=some (ao.getD (ao.length-1-k) .none):=by show ao.toArray[ao.length-1-k]?=_;rw[List.getElem?_toArray,Yr,Ys (by lia)];rfl
    rw[e,ih λj hj=>h j (.tail _ hj)]
  exact this _ λk hk=>Zp.mp hk
 rw[key];by_cases hk:k<ao.length
 .rw[YG,ZT hk,aaH hk];simp only[Option.map_some];rw[Yr,Ys (by lia)];rfl
 .rw[ZV (by rw[Yq,YE];lia),ZV (by rw[Z9];lia)]
section
variable{X:Cx}{e st:acg}{te ts:TE}{p2 pos:Pos}
def FA(K:Yp)(te ts:TE):TE:=λσ H Q=>te σ H λx H1=>ts σ H1 λy H2=>y = .int (-1)/\∃ a xs,x = .ref a/\ai K H2 a xs/\∀ p,H2 p=none->Q (.ref p) (upd H2 p (.lst xs.reverse))
theorem FC(he:PE X e te)(hs:PE X st ts):PE X (.Subscript e (.Slice none none (some st) p2) pos) (FA X.K te ts):=by intro pins s σ H Q I h;refine ae9 (aB (he pins s σ H _ I h) λv s1 zq=>?_);obtain⟨x,H1,I1,r1,q1⟩:=zq;refine wpAny_Slice ?_;rw[aeL];refine Yu (Yu ?_);rw[evalPart_some];refine aB (hs pins s1 σ H1 _ I1 q1) λu s2 zq=>?_;obtain⟨y,H2,I2,r2,q2⟩:=zq;obtain⟨rfl,a,xs,rfl,hx,q⟩:=q2;obtain⟨t,rfl⟩:=r2;cases r1;have I4:Inv X pins σ H2 { s2 with heap:=s2.heap.push { cls:=.type "slice",data:=.fields #[.none,.none,.int (-1) t] } }:=I2.kept (t':=s2.toks) λb ob q=>Yt _ q;obtain⟨ao,r,ht,hz⟩:=I4.list hx;have hlen:=r.length;show YL (model X.prog X.w) X.A (adt e (.Slice none none (some st) p2) (.ref a) (.ref s2.heap.objs.size)) (EP X pins σ Q) X.xe { s2 with heap:=s2.heap.push { cls:=.type "slice",data:=.fields #[.none,.none,.int (-1) t] } };refine tail_any (ops:=[.ref a,.ref s2.heap.objs.size]) ht.isList.typeIs slot_list_getitem.lookup ?_ (by with_unfolding_all rfl);refine adb ht.isList (Heap.IsSliceOf.new ..) .none .none (.int (-1) t) (by simp) ?_ (by rw[YD];lia);rw[PK];refine⟨.ref _,_,I4.laid (t':=s2.toks) (o:=.lst xs.reverse) (λb ob q=>Yt _ q) (Yz _) ?_,rfl,q _ (I4.ay.fresh (Yz _))⟩;exact⟨by rw[Z9];exact hz,_,0,r.reverse,YA _ rfl⟩
end
theorem PL{K:Yp}{a:YC}{xs:List V}{ρ:L2.St}{tt:TT}{te:TE}{H:Hp}{Q:VK}(hn:xs.length<=YR)(h:dZ (λH=>ai K H a xs) ρ tt te xs.reverse [] H λys H'=>∀ l,H' l=none->Q (.ref l) (upd H' l (.lst ys))):ko (ux K a xs.length) ρ tt te H Q:=by
 have hr:xs.reverse.length=xs.length:=Z9;refine⟨λi m ys H=>m=xs.length-i/\i<=xs.length/\ys.length<=i/\dZ (λH=>ai K H a xs) ρ tt te (xs.reverse.drop i) ys H λys H'=>∀ l,H' l=none->Q (.ref l) (upd H' l (.lst ys)),⟨_,rfl,YS _,Yz _,h⟩,?_⟩;rintro i m ys H ⟨rfl,hi,hy,g⟩;by_cases aT:i<xs.length
 .have e:=Zs (show i<xs.reverse.length by lia);rw[e] at g;obtain⟨g0,g1⟩:=g;refine .inr ⟨⟨xs,_,g0,rfl,Ys (by lia)⟩,by lia,λzs H'=>zs.length<=i+1/\dZ (λH=>ai K H a xs) ρ tt te (xs.reverse.drop (i+1)) zs H' λys H'=>∀ l,H' l=none->Q (.ref l) (upd H' l (.lst ys)),λzs H' q=>⟨_,by lia,rfl,aT,q.1,q.2⟩,λx H' y=>?_⟩;obtain⟨rfl,ex⟩:=y;have ex:=ex xs g0 rfl;rw[Ys (by lia)] at ex;cases ex;have l1:∀ y:V,(ys++[y]).length<=i+1:=λy=>by rw[YO,YY];lia
  have l2:ys.length<=i+1:=by lia
  simp only[l1,l2,true_and];exact g1
 .have e:i=xs.length:=by lia
  subst e;rw[abW (by lia)] at g;exact .inl ⟨rfl,by lia,g.2⟩
theorem xj(h:ads us ns):Vals (ns.map V.int) us:=by
 induction h with
 | nil=>exact .nil
 | cons n t r ih=>exact .cons ⟨t,rfl⟩ ih
theorem uU{α:Type}{R:Hp->V->α->Prop}{Ok:Hp->Prop}{ρ:L2.St}{tt:TT}{te:TE}{p:α->Bool}{Q':List V->Hp->Prop}(mono:∀ H H' x a,aj H H'->R H x a->R H' x a):∀ {xs:List V} {as:List α} {ys:List V} {H:Hp},az (R H) xs as->(∀ H',aj H H'->Ok H') ->
 (∀ x a,a∈as->∀ H',aj H H'->R H' x a->∀ Q,(∀ gQ,aj H' gQ->Q (p a) gQ)->tt (some x::ρ) H' Q)->(∀ x H',aj H H'->∀ Q:VK,Q x H'->te (some x::ρ) H' Q) ->
 (∀ H' zs,aj H H'->az (R H') zs (as.filter p)->Q' (ys++zs) H')->dZ Ok ρ tt te xs ys H Q'
 | [],[],ys,H,_,bE,_,_,q=>⟨bE H (aj.refl H),by simpa using q H [] (aj.refl H) trivial⟩
 | x::xs,a::as,ys,H,h,bE,ht,he,q=>by
  refine⟨bE H (aj.refl H),ht x a (.head _) H (aj.refl H) h.1 _ λH1 s1=>?_⟩;have go:=λ(ws:List V) (q2:∀ H' zs,aj H1 H'->az (R H') zs (as.filter p)->Q' (ws++zs) H')=>uU (ys:=ws) mono (h.2.imp λx a r=>mono _ _ _ _ s1 r) (λH' s'=>bE H' (s1.trans s')) (λx a ha H' s'=>ht x a (.tail _ ha) H' (s1.trans s')) (λx H' s'=>he x H' (s1.trans s')) q2;by_cases hb:p a=true
  .rw[if_pos hb];refine he x H1 s1 _ (go _ λH' zs s' hz=>?_);have:=q H' (x::zs) (s1.trans s') (by rw[Za,if_pos hb];exact⟨mono _ _ _ _ (s1.trans s') h.1,hz⟩);simpa using this
  .rw[if_neg hb];refine go _ λH' zs s' hz=>q H' zs (s1.trans s') ?_;rw[Za,if_neg hb];exact hz
 | [],_::_,_,_,h,_,_,_,_=>h.elim
 | _::_,[],_,_,h,_,_,_,_=>h.elim
theorem yD{β:Type}{R':Hp->V->β->Prop}{Ok:Hp->Prop}{ρ:L2.St}{tt:TT}{te:TE}{p:V × V->Bool}{f:V × V->β}{Q':List V->Hp->Prop}(iO:∀ H H' x a,aj H H'->R' H x a->R' H' x a):∀ {rows:List (V × V)} {H:Hp} {zs:List V} {bs:List β},az (R' H) zs bs->(∀ H',aj H H'->Ok H') ->
 (∀ r∈rows,∀ H',aj H H'->∀ Q,Q (p r) H'->tt (some r.1::some r.2::ρ) H' Q)->(∀ r∈rows,p r=true->∀ H',aj H H'->∀ Q:VK,(∀ gQ y,aj H' gQ->R' gQ y (f r)->Q y gQ)->te (some r.1::some r.2::ρ) H' Q) ->
 (∀ H' ws,aj H H'->az (R' H') ws (bs++(rows.filter p).map f)->Q' ws H')->oj Ok ρ tt te rows zs H Q'
 | [],H,zs,bs,hz,bE,_,_,q=>⟨bE H (aj.refl H),q H zs (aj.refl H) (by simpa using hz)⟩
 | (x,y)::r,H,zs,bs,hz,bE,ht,he,q=>by
  refine⟨bE H (aj.refl H),λw hw=>?_⟩;have s:=Gz.au (o:=.tup [x,y]) hw;refine ht _ (.head _) _ s _ ?_;by_cases hb:p (x,y)=true
  .rw[if_pos hb];refine he _ (.head _) hb _ s _ λH2 v s2 r2=>?_;have S:=s.trans s2;refine yD iO (bs:=bs++[f (x,y)]) ((hz.imp λx a r=>iO _ _ _ _ S r).snoc r2) (λH' s'=>bE H' (S.trans s')) (λz hz H' s'=>ht z (.tail _ hz) H' (S.trans s')) (λz hz hb H' s'=>he z (.tail _ hz) hb H' (S.trans s')) λH' ws s' hw=>q H' ws (S.trans s') ?_;rw[Za,if_pos hb,YV]
   rwa [adg] at hw
  .rw[if_neg hb];refine yD iO (hz.imp λx a r=>iO _ _ _ _ s r) (λH' s'=>bE H' (s.trans s')) (λz hz H' s'=>ht z (.tail _ hz) H' (s.trans s')) (λz hz hb H' s'=>he z (.tail _ hz) hb H' (s.trans s')) λH' ws s' hw=>q H' ws (s.trans s') ?_;rw[Za,if_neg hb];exact hw
abbrev qS(H:Hp)(v:V)(s:S2):Prop:=aK H v s.1 s.2
noncomputable def cellsFrom:En->List Int->List S2
 | lo,[]=>[(lo,none)]
 | lo,z::zs=>(lo,some (z-1))::cellsFrom (some z) zs
noncomputable def kD(c:S2):Int:=match c.1,c.2 with
 | some x,_=>x
 | none,some y=>y
 | none,none=>0
theorem PM(h:Ew c):hs c (kD c)=true:=by
 rw[Oj];unfold Ew at h;rcases c with ⟨_|x,_|y⟩
 .exact⟨λ_ e=>(nomatch e),λ_ e=>(nomatch e)⟩
 .exact⟨λ_ e=>(nomatch e),λ_ e=>by cases e;exact Zv _⟩
 .exact⟨λ_ e=>by cases e;exact Zv _,λ_ e=>(nomatch e)⟩
 .refine⟨λ_ e=>by cases e;exact Zv _,λ_ e=>?_⟩;cases e;show x<=y;simp[aW] at h;lia
theorem FD(es:List Int):(es.map V.int).all kg=true:=by rw[agB];exact Z7.mpr λ_ _=>rfl
theorem yE(a:Int):∀ (es:List Int),t9 (.int a) (es.map V.int)=es.contains a
 | []=>rfl
 | e::es=>by
  have ih:=yE a es;unfold t9 at *;rw[YV,ZN,ih,List.contains_cons]
  congr 1
  show (e == a)=(a == e);rw[aba];simp only[beq_iff_eq];exact eq_comm
theorem FE{K:Yp}{H1 H':Hp}{l:YC}{ys:List V}{tb:Tb}(hl:H1 l=some (.lst ys))(hM:az (jH H1) ys tb)(s:aj H1 H'):qR K l ys (rowOf H1) 3 H':=by refine⟨ai.of (s _ _ hl),λx hx=>?_⟩;obtain⟨i,hi⟩:=Zy.mp hx;obtain⟨m,_,t,p,rfl,h1,h2⟩:=hM.get hi;rw[qQ h1];exact⟨t,rfl,ah.of (s _ _ h1),rfl⟩
noncomputable def dP(tb:Tb)(es:List Int):List Mk:=((lB tb).filter λr=>!es.contains r.1.1).map λr=>(r.1.2.toNat,r.2)
theorem map_some:∀ (l:List α),(l.map f).filterMap id=l.filterMap f
 | []=>rfl
 | a::l=>by rw[YV,ZF,ZF,map_some l];rfl
theorem bZ:∀ {l:List α},l.Pairwise R->∀ {p q:α},p∈l->q∈l->p=q∨R p q∨R q p
 | [],_,_,_,h,_=>by cases h
 | x::l,h,p,q,hp,hq=>by
  have h1:=aeV.mp h;rcases YK.mp hp with e1|i1<;>rcases YK.mp hq with e2|i2
  .exact .inl (e1.trans e2.symm)
  .rw[e1];exact .inr (.inl (h1.1 q i2))
  .rw[e2];exact .inr (.inr (h1.1 p i1))
  .exact bZ h1.2 i1 i2
theorem uV:(lB tb).Perm tb:=ox
local macro_rules | `(tactic| walk_at "o") => `(tactic| ((try simp only [PySem.Addr] at *); lia))
section
end
noncomputable def PN(K:Yp)(a b c:YC):It :=
 ⟨λi H=>∃ xs ys zs x y z,ai K H a xs/\ai K H b ys/\ai K H c zs/\xs[i]?=some x/\ys[i]?=some y/\zs[i]?=some z,λi H v H'=>∃ (p:YC) (x y z:V),v = .ref p/\H p=none/\H'=upd H p (.tup [x,y,z])/\(∀ xs,ai K H a xs->xs[i]?=some x)/\(∀ ys,ai K H b ys->ys[i]?=some y)/\∀ zs,ai K H c zs->zs[i]?=some z,
  λi H=>∃ xs,ai K H a xs/\xs.length<=i⟩
def PQ(K:Yp)(ta:TA):TI:=λσ H R=>ta σ H λvs H1=>∃ a b c,vs=[.ref a,.ref b,.ref c]/\(∃ xs,ai K H1 a xs)/\(∃ ys,ai K H1 b ys)/\(∃ zs,ai K H1 c zs)/\R (PN K a b c) H1
section
def Loose:HO->Prop
 | .dT _=>True
 | .aQ _ (.dT _)=>True
 | _=>False
theorem FF(I:Inv X pins σ H s)(e:H a=some u)(lu:Loose u)(h0:∀ o v,X.H₀ a≠some (.aQ o v))(new:br X.prog X.w (upd H a u') s.heap a u'):Inv X pins σ (upd H a u') s:=by
 have nn:∀ b,H b=none->b≠a:=λb h z=>by rw[z,e] at h;cases h
 have nt:∀ b xs,H b=some (.tup xs)->b≠a:=λb xs h z=>by rw[z,e] at h;cases h;exact lu
 have no:∀ b x,H b=some (.own x)->b≠a:=λb x h z=>by rw[z,e] at h;cases h;exact lu
 have nb:∀ b ps,H b=some (.tbl ps)->b≠a:=λb ps h z=>by rw[z,e] at h;cases h;exact lu
 refine⟨I.ok,I.os,I.bare,⟨I.base.keep,I.base.slot,λb o e1 n hx=>?_,I.base.there,λb xs e1=>?_,λb o v e1=>?_,λb ps e1=>?_⟩,I.loc,I.cell,?_,λx c e1=>?_,λp hp=>?_,λb ob e1=>?_,I.len⟩
 .have:=I.base.free b o e1 n hx;rw[aD (nn b this)];exact this
 .have:=I.base.eV b xs e1;rw[aD (nt b xs this)];exact this
 .have:=I.base.dR b o v e1;rw[aD (show b≠a from λz=>h0 o v (by rw[<- z];exact e1))];exact this
 .obtain⟨more,this⟩:=I.base.eW b ps e1;exact⟨more,by rw[aD (nb b _ this)];exact this⟩
 .rw[aD (nn _ I.free)];exact I.free
 .have:=I.eB x c e1;rw[aD (nn c this)];exact this
 .obtain⟨p1,p2,p3⟩:=I.pin p hp;exact⟨p1,by rw[aD (nn _ p2)];exact p2,p3⟩
 .by_cases hb:b=a
  .subst hb;rw[ax] at e1;cases e1;exact new
  .rw[aD hb] at e1;exact (I.ay b ob e1).fG (λ_ _ _ q=>q) (λc h=>by rw[aD (no c _ h)];exact h) λc xs h=>by rw[aD (nt c xs h)];exact h
theorem PR(I:Inv X pins σ H s)(e:H a=some (.dT kvs)):∃ o,Inv X pins σ (upd H a (.aQ o (.dT kvs))) s/\∀ o v,X.H₀ a≠some (.aQ o v):=by
 have h0:∀ o v,X.H₀ a≠some (.aQ o v):=λo v z=>by have:=I.base.dR a o v z;rw[e] at this;cases this
 have ok:=I.ay a _ e;obtain⟨_,_,_,_,o,_,_,ho,_⟩:=id ok;refine⟨o,FF I e trivial h0 ⟨ho,ok.fG (λ_ _ _ q=>q) (λc h=>?_) λc xs h=>?_⟩,h0⟩
 .rw[aD λz=>by rw[z,e] at h;cases h];exact h
 .rw[aD λz=>by rw[z,e] at h;cases h];exact h
theorem uW(I:Inv X pins σ H s)(e:H a=some (.aQ o (.dT kvs)))(h0:∀ o v,X.H₀ a≠some (.aQ o v)):Inv X pins σ (upd H a (.dT kvs)) s:=by
 obtain⟨_,ok⟩:=I.ay a _ e;refine FF I e trivial h0 (ok.fG (λ_ _ _ q=>q) (λc h=>?_) λc xs h=>?_)
 .rw[aD λz=>by rw[z,e] at h;cases h];exact h
 .rw[aD λz=>by rw[z,e] at h;cases h];exact h
noncomputable def FG(a:YC)(o:Obj)(kvs:List (List Key × V))(D:Ends):Ends where
 nx:=λσ H=>H a=some (.aQ o (.dT kvs))/\D.nx σ (upd H a (.dT kvs))
 rt:=λv H=>H a=some (.aQ o (.dT kvs))/\D.rt v (upd H a (.dT kvs))
 bk:=λσ H=>H a=some (.aQ o (.dT kvs))/\D.bk σ (upd H a (.dT kvs))
 ct:=λσ H=>H a=some (.aQ o (.dT kvs))/\D.ct σ (upd H a (.dT kvs))
def FH(t:TS):TS:=λD σ H=>∃ a kvs,H a=some (.dT kvs)/\∀ o,t (FG a o kvs D) σ (upd H a (.aQ o (.dT kvs)))
theorem FI{st:aaj}{t:TS}(h:PS X st t):PS X st (FH t):=by
 rintro pins s σ H D I ⟨a,kvs,e,q⟩;obtain⟨o,I1,h0⟩:=PR I e;refine aB (h pins s σ _ _ I1 (q o)) λf s' hf=>?_;cases f with
 | next=>obtain⟨σ',H',I',e',q'⟩:=hf;exact⟨σ',_,uW I' e' h0,q'⟩
 | brk=>obtain⟨σ',H',I',e',q'⟩:=hf;exact⟨σ',_,uW I' e' h0,q'⟩
 | cont=>obtain⟨σ',H',I',e',q'⟩:=hf;exact⟨σ',_,uW I' e' h0,q'⟩
 | ret v=>obtain⟨v',σ',H',I',r',e',q'⟩:=hf;exact⟨v',σ',_,uW I' e' h0,r',q'⟩
def PU(t:TE):TE:=λσ H Q=>∃ a kvs,H a=some (.dT kvs)/\∀ o,t σ (upd H a (.aQ o (.dT kvs))) λv H'=>H' a=some (.aQ o (.dT kvs))/\Q v (upd H' a (.dT kvs))
noncomputable def gx(o:Obj):List V:=match o.data with
 | .dict es _=>es.toList.map λe=>match e.key with
  | .ref a=>V.ref a
  | _=>V.non
 | _=>[]
noncomputable def qT(a:YC)(o:Obj)(kvs:List (List Key × V)):It where
 go i H:=H a=some (.aQ o (.dT kvs))/\i<kvs.length
 yld i H x H':=H'=H/\(gx o)[i]?=some x
 stop i H:=H a=some (.aQ o (.dT kvs))/\kvs.length<=i
def yF(tl:TE):TI:=λσ H R=>tl σ H λx H1=>∃ a o kvs,x = .ref a/\H1 a=some (.aQ o (.dT kvs))/\(gV H1 (gx o) kvs->R (qT a o kvs) H1)
theorem yG(ok:bK P w H h)(e:H a=some (.aQ o (.dT kvs))):∃ (as:List YC) (es:Array aa3) (ep:Nat),gV H (gx o) kvs/\(a == Z8)=false/\fN h a es ep/\o.data = .dict es ep/\es.size=kvs.length/\kvs.length<=YR/\∀ i (hi:i<es.size),∃ b,es[i].key = .ref b/\(gx o)[i]?=some (.ref b):=by
 obtain⟨ho,z,lo,xs,rel,o',es,ep,b7,hc,hd,he,hn⟩:=ok a _ e;rw[ho] at b7;cases b7;have hl:xs.length=kvs.length:=(Paired.length rel).symm;have hs:es.size=xs.length:=abe he;have ek:gx o=(xs.map (·.2.1)).map V.ref:=by unfold gx;rw[hd];show es.toList.map _=_;rw[he,ZH,ZH];exact aaA λx _=>rfl
 refine⟨xs.map (·.2.1),es,ep,?_,lo,⟨o,ho,hc,hd⟩,hd,hs.trans hl,z,λi hi=>?_⟩
 .rw[ek];exact KT.E2 rel
 .have hx:i<xs.length:=by lia
  have e1:=entry_at he i;rw[Zb hi,Ys hx] at e1;have e2:es[i]=ae0 (ac5 (eo P w)) xs[i]:=by simpa using e1
  refine⟨xs[i].2.1,by rw[e2];rfl,?_⟩;rw[ek,YG,YG,Ys hx];rfl
theorem PV{P:Zo}{w:ZZ}{K:Yp}{tg:acg}(a it:YC)(o:Obj)(kvs:List (List Key × V))(bF:a≠it):Turn P w K tg (qT a o kvs) [it] it (λi h=>∃ es ep,o.data = .dict es ep/\i<=es.size/\h.IsKeyIter it a i es.size ep) where
 mem:=by simp
 obj:=λi h st b hb=>by
  have e:b=it:=by simpa using hb
  subst e;obtain⟨es,ep,_,_,ob,e,c,d⟩:=st;exact⟨ob,e,λv z=>by rw[d] at z;cases z⟩
 keep:=λi h h' st k=>by obtain⟨es,ep,h1,h2,ob,e,c,d⟩:=st;exact⟨es,ep,h1,h2,ob,k it (by simp) ob e,c,d⟩
 item:=by
  intro X hP hw hK hc i pins s σ H E I hf st hg;subst hP hw hK;obtain⟨e,hi⟩:=hg;obtain⟨es,ep,hd,hle,hit⟩:=st;obtain⟨as,es',pP,hk,lo,raw,ix,hs,hz,gj⟩:=yG I.ay e;rw[hd] at ix;cases ix;obtain⟨f0,f1,f2,f3,f4,f5⟩:=hf it (by simp);have cv:i<es.size:=by lia
  obtain⟨b,eb,kb⟩:=gj i cv;refine ET hit raw cv λh' kz sb=>?_;have I1:Inv X pins σ H { s with heap:=h' }:=I.turned (t':=s.toks) (λb o hb e=>(sb.2 b hb).trans e) f0 f1 f3 f4 f5;obtain⟨ob,e1,c1,d1⟩:=id kz;exact⟨es[i].key,rfl,nP (s:={ s with heap:=h' }) e1 c1 d1 (by decide) ⟨.ref b,H,I1,eb,⟨rfl,kb⟩,⟨es,ep,hd,cv,kz⟩,λb hb=>(hf b hb).1⟩⟩
 done:=by
  intro X hP hw hK hc i pins s σ H E I hf st hg;subst hP hw hK;obtain⟨e,hi⟩:=hg;obtain⟨es,ep,hd,hle,hit⟩:=st;obtain⟨as,es',pP,hk,lo,raw,ix,hs,hz,gj⟩:=yG I.ay e;rw[hd] at ix;cases ix;obtain⟨f0,f1,f2,f3,f4,f5⟩:=hf it (by simp);have ei:i=es.size:=by lia
  subst ei;exact EU (I.ok.hd hc) hit raw λh' eb=>⟨rfl,I.turned (t':=s.toks) (λb o hb e=>eb b o hb e) f0 f1 f3 f4 f5⟩
 self:=λ_ _ _ _ _ st h=>by obtain⟨es,ep,_,_,hit⟩:=st;exact aeg hit h
theorem FK(hl:PE X l tl):PI X tg l (yF tl):=by
 intro pins s σ H R I h;refine aB (hl pins s σ H _ I h) λv s1 zq=>?_;obtain⟨x,H1,I1,r1,q1⟩:=zq;obtain⟨a,o,kvs,e,hf,q⟩:=q1;subst e;cases r1;obtain⟨as,es,ep,hk,lo,raw,hd,hs,hz,gj⟩:=yG I1.ay hf;refine ES lo raw ?_;refine⟨s1.heap.objs.size,[s1.heap.objs.size],_,_,H1,rfl,I1.kept (t':=s1.toks) λb o e=>Yt _ e,PV a _ o kvs (YH raw.lt),⟨es,ep,hd,YS _,_,YA _ rfl,rfl,rfl⟩,λb hb=>?_,q hk⟩;have e:b=s1.heap.objs.size:=by simpa using hb
 subst e;exact I1.gJ (Yz _) (I1.ay.fresh (Yz _))
theorem PX:jm (yF tl) g tb D σ H=tl σ H (λx H1=>∃ a o kvs,x = .ref a/\H1 a=some (.aQ o (.dT kvs))/\(gV H1 (gx o) kvs->FJ (qT a o kvs) g tb D σ H1)):=rfl
theorem PY(Pv:Nat->L2.St->Hp->Prop)(hk:gx o=xs)(PZ:xs.length=kvs.length)(h0:Pv 0 σ H)(hl:∀ i σ H,i<=xs.length->Pv i σ H->H a=some (.aQ o (.dT kvs)))(hs:∀ i x σ H,xs[i]?=some x->Pv i σ H->g x σ H λσ2 H2=>tb { D with nx:=Pv (i+1),ct:=Pv (i+1),bk:=D.nx } σ2 H2)(hd:∀ σ H,Pv xs.length σ H->D.nx σ H):FJ (qT a o kvs) g tb D σ H:=by
 refine⟨λi m σ H=>m=xs.length-i/\i<=xs.length/\Pv i σ H,⟨xs.length,by simp,YS _,h0⟩,?_⟩;rintro i m σ H ⟨rfl,hi,p⟩;have q:=hl i σ H hi p;by_cases aT:i<xs.length
 .refine .inr ⟨⟨q,by lia⟩,Pv (i+1),λσ' H' p'=>⟨xs.length-(i+1),by lia,rfl,aT,p'⟩,λx H' y=>?_⟩;obtain⟨e,y⟩:=y;subst e;rw[hk] at y;exact hs i x σ _ y p
 .have e:i=xs.length:=by lia
  subst e;exact .inl ⟨⟨q,by lia⟩,hd σ H p⟩
theorem P4(hk:gx o=xs)(PZ:xs.length=kvs.length):qB (qT a o kvs) (λH=>H a=some (.aQ o (.dT kvs))) xs :=
 ⟨λi _ _ h e=>⟨h,by have:=(Yx.mp e).1;lia⟩,λi _ _ _ _ y=>⟨y.1,λ_=>hk ▸ y.2⟩,λi _ h hi=>⟨h,by lia⟩⟩
end
theorem yH(e:H a=some u)(h:H p=some v)(ne:v≠u):upd H a w p=some v:=by rw[aD (nI h e ne)];exact h
section
theorem P5(e:H0 a=some (.dT kvs))(s:aj (upd H0 a (.aQ o (.dT kvs))) H1):aj H0 (upd H1 a (.dT kvs)):=λb u h=>by
 by_cases hb:b=a
 .subst hb;rw[e] at h;cases h;exact ax
 .rw[aD hb];exact s b u (by rw[aD hb];exact h)
theorem yI(e:H a=some (.dT kvs))(h:H p=some (.tup xs)):upd H a u p=some (.tup xs):=yH e h λz=>nomatch z
theorem P6(e:H a=some (.dT kvs))(h:H p=some (.lst xs)):upd H a u p=some (.lst xs):=yH e h λz=>nomatch z
theorem aK.aQ(h:aK H v x y)(e:H a=some (.dT kvs)):aK (upd H a u) v x y:=let ⟨t,e1,h1⟩:=h;⟨t,e1,yI e h1⟩
theorem a8.aQ(h:a8 H kvs tb)(e:H a=some (.dT kvs)):a8 (upd H a u) kvs tb:=h.imp λ_ _ _ z=>z.aQ e
theorem P7{K:Yp}{xs:List V}(e:H a=some (.dT kvs))(h:ai K H p xs):ai K (upd H a (.aQ o (.dT kvs))) p xs:=by
 rcases h with (h|⟨z,h⟩)|h
 .exact .inl (.inl (P6 e h))
 .exact .inl (.inr ⟨z,yH e h λz=>nomatch z⟩)
 .exact .inr h
end
theorem eL.z(e:H a=some (.aQ o (.dT kvs)))(eb:H b=some (.tup (k.map kV))):eL H a (.ref b) (cH kvs k):=.inr ⟨kvs,k,b,.inr ⟨o,e⟩,rfl,eb,rfl⟩
noncomputable def lD(tb:Tb)(i:Int):List Mk:=((lB tb).filter λr=>decide (r.1.1=i)).map λr=>(r.1.2.toNat,r.2)
noncomputable def cP(cs:List Int)(t:Nat):Int:=cs.getD t 0
theorem P8(h:t<cs.length):(cs.map V.int)[t]?=some (V.int (cP cs t)):=by rw[YG,Ys h];unfold cP;rw[Yr,Ys h];rfl
noncomputable def lE(X:Cx)(x:Str)(N':List Str)(scope:adH)(cl:List (Str × YC))(C:YC)(s2:YB)(H2:Hp)(ex:List YC)(pn:List (YC × Obj)):Cx :=
 { X with N:=N',s₀:=s2,H₀:=H2,env:=afx scope ((x,(C+1:Nat))::cl) C X.env,outer:=X.stack,ex:=ex,fn:=λy=>y == x,pn:=pn,xe:=λ_ _=>False }
structure oN(X:Cx)(x:Str)(scope:adH)(cl:List (Str × YC))(fr:List Nat)(ys:List Str):Prop where
 clos:aga scope X.env=pure cl
 one:∀ n acc,PySem.cellsFrom n scope.names acc=(x,n)::acc
 push:∀ h,pushCells h scope.names=h.push { cls:=.type "cell",data:=.cell none }
 kind:scope.kind = .function
 names:(scope.names.all λp=>p.2 != .local || scope.names.lookup p.1 == some .local)=true
 own:scope.names.lookup x=some .cell
 kinds:((relabel scope X.env).names.all λp=>(p.2 != .cell && p.2 != .free) || p.1 == x || (cl.lookup p.1).isSome)=true
 cls:lj X cl
 aU:jy X scope cl fr ys
 nd:(x::ys).Nodup
 kfr:(ys.all λy=>(relabel scope X.env).names.lookup y == some .cell)=true
theorem FL{env:Env}:∀ {names:List (Str × adq)} {x:Str},names.lookup x=some .cell ->
 (names.map λ(n,k)=>if (k == NameKind.free && env.scope.kind == .function && env.kindOf n == some .cell) then (n,NameKind.cell) else (n,k)).lookup x=some .cell
 | [],_,h=>by simp at h
 | (n,k)::r,x,h=>by
  have ih:=@FL env r x;show abB x ((if (k == NameKind.free && env.scope.kind == .function && env.kindOf n == some .cell)=true then (n,NameKind.cell) else (n,k))::_)=_;cases hx:x == n with
  | true =>
   simp only[Z6,hx] at h;cases h;simp[Z6,hx]
  | false =>
   simp only[Z6,hx] at h;by_cases hc:(k == NameKind.free && env.scope.kind == .function && env.kindOf n == some .cell)=true
   .rw[if_pos hc];simp only[Z6,hx];exact ih h
   .rw[if_neg hc];simp only[Z6,hx];exact ih h
theorem mT{x y:Str}{a c:YC}{cl:List (Str × YC)}(h:((x,a)::cl).lookup y=some c):(y=x/\c=a)∨(y≠x/\cl.lookup y=some c):=by
 rw[Z6] at h;by_cases hy:(y == x)=true
 .rw[hy] at h;cases h;exact .inl ⟨by simpa using hy,rfl⟩
 .rw[abh.mpr hy] at h;exact .inr ⟨by simpa using hy,h⟩
theorem P9{x y:Str}{a c:YC}{cl:List (Str × YC)}(h:cl.lookup y=some c)(hy:y≠x):((x,a)::cl).lookup y=some c:=by rw[Z6,beq_eq_false_iff_ne.mpr hy];exact h
theorem Qa(one:∀ n acc,PySem.cellsFrom n scope.names acc=(x,n)::acc)(push:∀ h,pushCells h scope.names=h.push { cls:=.type "cell",data:=.cell none })(hQ:Q (newEnv scope s.heap.objs.size globals ((x,(s.heap.objs.size+1:Nat))::cl) qual none .none (some env) ae1) { s with heap:=(s.heap.push { cls:=.type "dict",data:=.dict #[] }).push { cls:=.type "cell",data:=.cell none } }) :
 YL M A (acW scope globals cl [] qual none .none (some env)) Q E s:=by
 simp only[acW,aeS,if_true];refine Yo (wpAny_alloc ?_);refine Yo (wpAny_layCells _ (λname kind cells=>by cases hkc:kind == NameKind.cell<;>simp[hkc]) _ _ _ _ ?_);rw[one,push,show ({ s with heap:=s.heap.push { cls:=.type "dict",data:=.dict #[] } }:YB).heap.objs.size=s.heap.objs.size+1 from aab ..];refine Yo ?_;rw[List.forIn_nil];exact Yu (Yu hQ)
theorem Qb{X:Cx}{K:Yp}{tg l:acg}{tl:TE}(h:X.K=K)(hl:PE X l tl):PI X tg l (tV K tl):=h ▸ cU hl
section
theorem oN.low(S:oN X x scope cl fr ys)(I2:Inv X pins σ H2 s2)(e:cl.lookup y=some c):c<s2.heap.objs.size:=by obtain⟨v,o,ho,_⟩:=I2.cell y c (S.cls.get y c e);exact Yv ho
theorem Qc(S:oN X x scope cl fr ys)(I2:Inv X pins σ H2 s2)(f2:∀ b∈ex,cS X pins H2 b)(hC:s2.heap.objs.size<=C)(hex:∀ b∈ex,b<s2.heap.objs.size):(lE X x (x::ys) scope cl C s2 H2 ex pn).Ok:=by
 refine⟨I2.ok.mod,S.kind,I2.ok.glob,I2.ok.blt,hC,λa b c h1 h2=>?_,λy hy=>?_,λy c hy h1=>?_,I2.ok.hd,I2.ok.frames,.inl rfl,λb hb=>⟨?_,λy c e z=>?_⟩,I2.bs,Yw I2.ok.bsz I2.sz,λb o e hb=>?_,λb hb z=>?_,I2.stack,I2.nK⟩
 .rcases mT h1 with ⟨e1,e2⟩|⟨_,e1⟩<;>rcases mT h2 with ⟨e3,e4⟩|⟨_,e3⟩
  .rw[e1,e3]
  .have:=S.low I2 e3;walk_at "o"
  .have:=S.low I2 e1;walk_at "o"
  .exact I2.ok.inj a b c (S.cls.get a c e1) (S.cls.get b c e3)
 .have xy:(relabel scope X.env).names.lookup y=some .cell∨(relabel scope X.env).names.lookup y=some .free:=hy;have q:(y == x)=true∨(cl.lookup y).isSome=true:=by
   rcases xy with e|e
   .simpa using um S.kinds e
   .simpa using um S.kinds e
  show ∃ c,((x,(C+1:Nat))::cl).lookup y=some c;rw[Z6];by_cases hyx:(y == x)=true
  .rw[hyx];exact⟨_,rfl⟩
  .rw[abh.mpr hyx];exact aaQ.mp (q.resolve_left hyx)
 .have e:y=x:=by have:(y == x)=true:=hy;simpa using this
  rcases mT h1 with ⟨_,e2⟩|⟨n,_⟩
  .show s2.heap.objs.size<=c;walk_at "o"
  .exact absurd e n
 .exact YH (YJ (hex b hb) hC)
 .have:=hex b hb;rcases mT e with ⟨_,e2⟩|⟨_,e2⟩
  .walk_at "o"
  .exact (f2 b hb).2.2.2.2.1 y c (S.cls.get y c e2) z
 .obtain⟨_,_,_,d,_,_⟩:=f2 b hb;rcases d with d|d
  .exact I2.ok.noex b o e d
  .exact absurd (YJ (Yv e) (Yw I2.ok.bsz d)) (ZK _)
 .obtain⟨_,d1,d2,_⟩:=f2 b hb;rcases YK.mp (I2.mw b z) with q|q
  .exact d1 q
  .exact d2 q
theorem Qd{J:It}{fp:List YC}{it:YC}{tn:Nat->aaW->Prop}{E:Yy->YB->Prop}{Q:VK}{RR:Yy->YC->aeJ->YB->Prop}
 (S:oN X x scope cl fr ys) (hc:X.calm=true)
 (hb:∀ (C:YC) (s:YB) (H:Hp) (ex:List YC) (pn:List (YC × Obj)),iI (lE X x (x::ys) scope cl C s H ex pn) ifs tt/\PE (lE X x (x::ys) scope cl C s H ex pn) elt te)
 (I2:Inv X pins σ H2 s2) (T:Turn X.prog X.w X.K (.Name x px) J fp it tn) (dU:tn 0 s2.heap) (f2:∀ b∈fp,cS X pins H2 b)
 (h:ko J (fr.map λj=>(σ[j]?).join) tt te H2 Q)
 (qw:∀ D C s' H',Inv X pins σ H' s'->(∃ m,s'.heap.Ns C m)->cS X pins H' C->Q (.ref D) H'->RR (.ref D) C (.ok .next) s') :
 YL (model X.prog X.w) X.A (agh []) (λacc s3=>YL (model X.prog X.w) X.A (acW scope X.env.globals cl [] X.env.qual none .none (some X.env)) (λqz s4 =>
  abb (model X.prog X.w) X.A (.compStart (.ListComp elt [⟨.Name x px,iter,ifs,0⟩] scope pos) 0 (.ref it) acc { qz with scope:=relabel scope X.env }) (RR acc qz.locals) s4) E s3) E s2:=by
 refine Zu (Qa S.one S.push ?_);dsimp only;generalize eP:s2.heap.push { cls:=.type "list",dict:=none,data:=.seq ([]:List Yy).toArray }=P2;have sz:P2.objs.size=s2.heap.objs.size+1:=by rw[<- eP,aab]
 have jA:s2.heap.objs.size≠P2.objs.size:=by walk_at "o"
 generalize eh:(P2.push { cls:=.type "dict",data:=.dict #[] }).push { cls:=.type "cell",data:=.cell none }=h1;have FN:∀ b o,P2.get? b=some o->h1.get? b=some o:=λb o e=>by rw[<- eh];exact Yt _ (Yt _ e)
 have keep:∀ b o,s2.heap.get? b=some o->h1.get? b=some o:=λb o e=>FN b o (eP ▸ Yt _ e);have hD:h1.get? s2.heap.objs.size=some { cls:=.type "list",data:=.seq ([]:List Yy).toArray 0 }:=FN _ _ (eP ▸ YA _ rfl);have fw:h1.Ns P2.objs.size λ_=>none:=by rw[<- eh];exact (Heap.Ns.new P2 (.type "dict")).keeps λb o e=>Yt _ e
 have pS:h1.IsCell (P2.objs.size+1:Nat) none:=by have e:=YA (P2.push { cls:=.type "dict",data:=.dict #[] }) (o:={ cls:=.type "cell",data:=.cell none }) rfl;rw[aab,eh] at e;exact⟨_,e,rfl⟩
 have jC:∀ b∈fp,b<s2.heap.objs.size:=λb hb=>by obtain⟨o,e,_⟩:=T.obj 0 _ dU b hb;exact Yv e
 generalize eC:P2.objs.size=C at fw pS jA ⊢;generalize eD:s2.heap.objs.size=D at jA hD;have jB:s2.heap.objs.size<=C:=by walk_at "o"
 have mG:s2.heap.objs.size<=D:=by walk_at "o"
 have xF:(lE X x (x::ys) scope cl C s2 H2 fp (X.pn++pins)).Ok:=Qc S I2 f2 jB (λb hb=>by have:=jC b hb;walk_at "o");have qy:=xA I2 f2 jB mG;have I4:Inv (lE X x (x::ys) scope cl C s2 H2 fp (X.pn++pins)) [] (none::fr.map λj=>(σ[j]?).join) H2 { s2 with heap:=h1 }:=by
  refine⟨xF,rfl,I2.bare,Un.kept keep,⟨_,fw,λi y v e1 e2 e3=>?_⟩,λy c e=>?_,I2.ay.fresh jB,λy c e=>?_,λp hp=>?_,I2.ay.kept keep,?_⟩
  .cases i with
   | zero=>simp at e2
   | succ i =>
    simp only[aal] at e1 e2;have lp:ys[i]?=some y:=e1;obtain⟨j,c,hN,hσ,hk,xG,n6⟩:=S.aU.get i y v lp e2;obtain⟨m,hm,hl⟩:=I2.loc;obtain⟨u,ru,lu⟩:=hl j y v hN hσ (.inr (.inl hk));have yx:y≠x:=λz=>(ZC.mp S.nd).1 (z ▸ YF lp);refine⟨u,ru,.inr ⟨.inl ?_,c,P9 xG yx,?_⟩⟩
    .have z:=Z7.mp S.kfr y (YF lp);exact (by simpa using z:(relabel scope X.env).names.lookup y=some .cell)
    .rcases lu with ⟨z,_⟩|⟨_,c',e',q'⟩
     .rw[hk] at z;cases z
     .rw[n6] at e';cases e';obtain⟨o,ho,hd⟩:=q';exact⟨o,keep _ _ ho,hd⟩
  .rcases mT e with ⟨_,rfl⟩|⟨_,e⟩
   .exact⟨_,pS⟩
   .obtain⟨v,o,ho,hd⟩:=I2.cell y c (S.cls.get y c e);exact⟨v,o,keep _ _ ho,hd⟩
  .rcases mT e with ⟨_,rfl⟩|⟨_,e⟩
   .exact I2.ay.fresh (by walk_at "o")
   .exact I2.eB y c (S.cls.get y c e)
  .have c6:p∈X.pn++pins:=by have:p∈(X.pn++pins)++[]:=hp;simpa using this
   obtain⟨e,n,_,_,d⟩:=I2.pin p c6;obtain⟨p1,_,p3,_⟩:=qy p c6;exact⟨keep _ _ e,n,p1,p3,d⟩
  .show (none::fr.map λj=>(σ[j]?).join).length=(x::ys).length;simp[S.aU.len]
 refine DC (os0:=[none]) hc (gi (X:=lE X x (x::ys) scope cl C s2 H2 fp (X.pn++pins)) (i:=0) S.nd rfl (.inr (FL S.own)) (.inl (beq_self_eq_true x))) (hb C s2 H2 fp (X.pn++pins)) I2 T dU f2 (xJ h) qw rfl I4 keep hD eD (sz.symm.trans eC) λy c e=>?_;rcases mT e with ⟨_,e2⟩|⟨_,e2⟩
 .exact⟨by walk_at "o",λb hb=>by have:=jC b hb;walk_at "o"⟩
 .have:=S.low I2 e2;exact⟨by walk_at "o",λb hb z=>(f2 b hb).2.2.2.2.1 y c (S.cls.get y c e2) z⟩
theorem Qe(S:oN X x scope cl fr ys)(hc:X.calm=true)(hi:PI X (.Name x px) iter wi)(hb:∀ (C:YC) (s:YB) (H:Hp) (ex:List YC) (pn:List (YC × Obj)),iI (lE X x (x::ys) scope cl C s H ex pn) ifs tt/\PE (lE X x (x::ys) scope cl C s H ex pn) elt te)(hs:∀ z,aar iter X.env z=pure z:=by intro _;rfl):PE X (.ListComp elt [⟨.Name x px,iter,ifs,0⟩] scope pos) (uk wi fr tt te):=by
 intro pins s σ H Q I h;rw[eval_ListComp];refine abI (use:=none) rfl hs S.clos S.kind (λy hy hl=>?_) (aB (hi pins s σ H _ I h) λxv s1 h1=>aB h1 λpZ s2 h2=>?_)
 .have z:=Z7.mp S.names y hy;rw[hl] at z;simpa using z
 .obtain⟨it,fp,tn,J,H2,rfl,I2,T,dU,f2,hB⟩:=h2;refine Qd (RR:=λacc C=>compPost (model X.prog X.w) X.A X.xe none (EP X pins σ Q) acc C) S hc hb I2 T dU f2 hB λD C s' H' J' hn fC q=>?_;obtain⟨m,hm⟩:=hn;obtain⟨c0,c1,c2,c3,c4,c5⟩:=fC;exact⟨m,hm,λh' sb=>⟨.ref D,H',J'.turned (it:=C) (λb o hb e=>sb.extBut b o hb e) c0 c1 c3 c4 c5,rfl,q⟩⟩
end
end Gz
namespace Gz
open PySem
theorem slot1{t:agl}{q:Nat}(hp:t.place = #[q])(hd:t.dummies = #[])(j:Nat):t.slot j=if q=j then .live 0 else .empty:=by
 unfold agm acQ;rw[hp,hd];simp only[SetTable.below,ZW,YD,Zn,aaR];by_cases h:q<j
 .have:q≠j:=by lia
  simp[h,this]
 .by_cases e:q=j<;>simp[h,e]
theorem FO(hp:t.place = #[q])(hd:t.dummies = #[])(hm:t.mask=7)(hf:∀ i,(f i == h)=false) :
 ∀ (n m:Nat) (p:SetTable.Probe),p.more=0->p.j=p.i->p.dummy=none->p.perturb<32 ^ n->p.i<=7->∃ j,j≠q/\aaU t f h (n+(m+2)) p=some (.empty j none)
 | n,m,⟨j,mo,i,pe,du⟩,h1,h2,h3,h4,h5=>by
  dsimp only at h1 h2 h3 h4 h5;subst h1 h3;obtain rfl:i=j:=h2.symm;have ad:t.advance ⟨i,0,i,pe,none⟩=⟨(i * 5+1+pe / 32) % 8,0,(i * 5+1+pe / 32) % 8,pe / 32,none⟩:=by simp[SetTable.advance,SetTable.leap,hm,afY]
  have le:(i * 5+1+pe / 32) % 8<=7:=by lia
  by_cases e:q=i
  .cases n with
   | zero =>
    have z:(i * 5+1+pe / 32) % 8≠q:=by lia
    refine⟨_,z,?_⟩;rw[show 0+(m+2)=(m+1)+1 by lia,aaU,slot1 hp hd,if_pos e];simp only[hf,YT,if_false];rw[ad,aaU,slot1 hp hd,if_neg (Zj z)]
   | succ n =>
    obtain⟨j,j1,j2⟩:=FO hp hd hm hf n m ⟨_,0,_,pe / 32,none⟩ rfl rfl rfl (by dsimp only;rw[Nat.pow_succ] at h4;exact Nat.div_lt_of_lt_mul (by lia)) le;refine⟨j,j1,?_⟩;rw[show n+1+(m+2)=(n+(m+2))+1 by lia,aaU,slot1 hp hd,if_pos e];simp only[hf,YT,if_false];rw[ad];exact j2
  .refine⟨i,Zj e,?_⟩;rw[show n+(m+2)=(n+m+1)+1 by lia,aaU,slot1 hp hd,if_neg e]
structure gy(t:agl)(L:List (Nat × Int × Yy)):Prop where
 pl:t.place=(L.map (·.1)).toArray
 du:t.dummies = #[]
 ma:t.mask=7
 sh:L=[]∨(∃ a,L=[a]) ∨ ∃ a b,L=[a,b]/\a.1<b.1
section
theorem gy.fits(k:gy t L):t.fits (L.map (·.2)).toArray.size=true:=by obtain⟨h1,h2,h3,h4⟩:=k;rcases h4 with rfl|⟨a,rfl⟩|⟨a,b,rfl,_⟩<;>simp[SetTable.fits,adz,h1,h2,h3]
theorem gy.zero(k:gy t L):SetTable.below t.place 0=0:=by obtain⟨h1,h2,h3,h4⟩:=k;rcases h4 with rfl|⟨a,rfl⟩|⟨a,b,rfl,_⟩<;>simp[h1,SetTable.below,ZW]
theorem gy.next(k:gy t L)(hi:i<L.length):SetTable.below t.place (L[i].1+1)=i+1:=by
 obtain⟨h1,h2,h3,h4⟩:=k;rw[h1];rcases h4 with rfl|⟨a,rfl⟩|⟨a,b,rfl,z⟩
 .cases hi
 .obtain rfl:i=0:=by simpa using hi
  simp[SetTable.below,ZW]
 .match i,hi with
  | 0,_ =>
   have:¬ b.1<a.1+1:=by lia
   simp[SetTable.below,ZW,this]
  | 1,_=>simp[SetTable.below,ZW]
theorem gy.free(k:gy t L)(hl:L.length<=1)(h:Int):∃ j,t.freeSlot h=some (j,false)/\j∉L.map (·.1):=by
 obtain⟨h1,h2,h3,h4⟩:=k;rcases h4 with rfl|⟨a,rfl⟩|⟨a,b,rfl,_⟩
 .refine⟨SetTable.bits h % 8,?_,λhx=>nomatch hx⟩;simp[afh,af3,af4,acD,h3,aaU,agm,acQ,h1,h2,SetTable.below,ZW]
 .have bt:SetTable.bits h<2 ^ 64:=by unfold SetTable.bits;lia
  obtain⟨j,j1,j2⟩:=FO (q:=a.1) h1 h2 h3 (f:=λ_=>h+1) (h:=h) (λ_=>by simp;lia) 13 205 (t.probeStart h) (by simp[acD,h3,afY]) rfl rfl (YJ bt (by decide)) (by simp only[acD,h3];lia);refine⟨j,?_,by simpa using j1⟩;unfold afh af3 af4;rw[h3,j2];rfl
 .simp at hl
theorem gy.put(k:gy t L)(hl:L.length<=1)(hj:j∉L.map (·.1))(h:Int)(x:Yy) :
 ∃ t' p L',t.put j=(t',p)/\gy t' L'/\ab2 (L.map (·.2)).toArray p (h,x)=(L'.map (·.2)).toArray/\t'.led=t.led/\t'.plain=t.plain/\t'.fill=L.length+1/\L'.Perm ((j,h,x)::L):=by
 obtain⟨h1,h2,h3,h4⟩:=k;rcases h4 with rfl|⟨a,rfl⟩|⟨a,b,rfl,_⟩
 .refine⟨_,_,[(j,h,x)],rfl,⟨?_,?_,h3,.inr (.inl ⟨_,rfl⟩)⟩,?_,rfl,rfl,?_,.refl _⟩<;>simp[adz,acQ,ab2,h1,h2,SetTable.below,ZW]
 .have hj:j≠a.1:=by simpa using hj
  by_cases z:a.1<j
  .refine⟨_,_,[a,(j,h,x)],rfl,⟨?_,?_,h3,.inr (.inr ⟨_,_,rfl,z⟩)⟩,?_,rfl,rfl,?_,.swap _ _ _⟩<;>simp[adz,acQ,ab2,h1,h2,SetTable.below,ZW,z]
  .refine⟨_,_,[(j,h,x),a],rfl,⟨?_,?_,h3,.inr (.inr ⟨_,_,rfl,show j<a.1 by lia⟩)⟩,?_,rfl,rfl,?_,.refl _⟩<;>simp[adz,acQ,ab2,h1,h2,SetTable.below,ZW,z]
 .simp at hl
end
end Gz
namespace Gz
open PySem PySem.Spec PyProof.Rows L2
theorem FP:Manifest.owners.lookup (String.ofList ['r','o','t','a','r','e','t','i','_','t','e','s'].reverse)=some Manifest.sig_set_iterator:=by kernel_rfl
theorem oO:Slot "set_iterator" "__next__" "set_iterator.__next__" :=
 .of (owner := "set_iterator") (n := "__next__") (by rw[acE,abf];kernel_rfl) (by decide +kernel) (by decide +kernel) (by decide +kernel)
  (by first|exact .inl (by decide +kernel)|exact .inr (by decide +kernel)) (by rw[aeo];kernel_rfl)
theorem FQ:acO table "set_iterator.__next__" = some aak.«set_iterator.__next__»:=entryFor_of_tree (by kernel_rfl)
theorem FR(a:Yy):adE "set_iterator.__next__" ⟨[a],[]⟩:=by unfold adE;rw[signature?_of (id := "set_iterator.__next__") (n:=['_','_','t','x','e','n','_','_']) (o:=['r','o','t','a','r','e','t','i','_','t','e','s']) (by kernel_rfl) FP];kernel_rfl
theorem Qf:acO table "set.__iter__" = some aak.«frozenset.__iter__» :=
 entryFor_alias (id' := "frozenset.__iter__") (by kernel_rfl) (by first|rfl|decide +kernel) (by decide +kernel) (by kernel_rfl)
section
theorem Qg(hT:s.TypeIs (.ref d) "set")(q:Q false s):YL (model prog w) A (abg (.ref d)) Q E s:=by
 unfold abg;refine Yo (acC hT PySem.F.slot_set_len.lookup ?_);generalize hid:("set.__len__" : String)=Qh
 wp_delta
 rw[show splitId Qh=some ("set","__len__") from by subst hid;decide +kernel];subst hid;refine Yo (aby (T := "set") (b:=true) hT (by rw[aeo];kernel_rfl) ?_);refine abR (λeZ=>absurd eZ (by decide)) (λ_=>?_);refine abR (λ_=>?_) (λeZ=>absurd (by decide +kernel) eZ);refine Yo (wpAny_typeOf hT ?_);exact Yu q
theorem FT:Zf "set" = some (.type "set"):=by decide +kernel
end
def iR(h:aaW)(a:YC)(p:P2):Prop:=∃ o t u n,h.get? a=some o/\o.cls = .type "tuple" /\ o.data = .seq #[.int p.1 t,.int p.2 u] n
theorem iR.keep(x:iR h a p)(k:∀ o,h.get? a=some o->h'.get? a=some o):iR h' a p:=let ⟨o,t,u,n,e,r⟩:=x;⟨o,t,u,n,k o e,r⟩
section
theorem FU(h:Q (.bool (decide (x<y))) s):YL (model prog w) A (adv .Lt (.int x t) (.int y u)) Q E s :=
 richCompare_gives (op:=.Lt) (af8 s _ t) (af8 s _ u) PySem.F.slot_int_lt PySem.F.entry_int_lt (PySem.F.args_int_lt_2 _ _) (gives_int_lt _ _ t u) (λx=>nomatch x) h
theorem uX(ha:iR s.heap a p)(hb:iR s.heap b q)(hu:A.units<acv)(h:Q (.bool (fe p q)) s):YL (model prog w) A (adv .Lt (.ref a) (.ref b)) Q E s:=by
 obtain⟨oa,t1,u1,n1,hoa,hca,hda⟩:=ha;obtain⟨ob,t2,u2,n2,hob,hcb,fu⟩:=hb;have Ta:s.TypeIs (.ref a) "tuple" := ⟨oa,hoa,hca⟩;have Tb:s.TypeIs (.ref b) "tuple" := ⟨ob,hob,hcb⟩;refine wpAny_richCompare_same_room Ta Tb ad7 (ZJ ad7 Ta PySem.F.entry_tuple_lt ?_ (PySem.F.args_tuple_lt_2 _ _)) hu;show YL _ _ (af9 (.ref b) (.type "tuple") >>= _) _ _ s;refine Yo (aby Tb isSubtype_tuple_tuple ?_);simp only[aeW,YT,if_false];refine Yo (aeX hoa hda ?_);refine Yo (aeX hob fu ?_);refine Yo ?_;refine wpAny_forIn_list _ (λrest r s'=>r.1=none/\s'=s/\(rest=[(.int p.1 t1,.int q.1 t2),(.int p.2 u1,.int q.2 u2)]∨(rest=[(.int p.2 u1,.int q.2 u2)]/\p.1=q.1)∨(rest=[]/\p.1=q.1/\p.2=q.2))) _ ?_ ?_ _ _ ⟨rfl,rfl,.inl rfl⟩
 .rintro ⟨u,v⟩ rest r s' ⟨hr,rfl,hz⟩;rcases hz with hz|⟨hz,e1⟩|⟨hz,_⟩
  .cases hz;refine Yo (adC ?_);by_cases e:p.1=q.1
   .rw[show (p.1 == q.1)=true by simpa using e];simp only[aeW,YT,if_false];exact Yu ⟨rfl,rfl,.inr (.inl ⟨trivial,e⟩)⟩
   .rw[show (p.1 == q.1)=false by simpa using e];simp only[af5,if_true];refine Yo (abJ (Yo (FU (Yo (Yu (Yu (Yu ⟨_,rfl,λz=>(nomatch z),?_⟩)))))));have e2:fe p q=decide (p.1<q.1):=by unfold fe;rw[decide_eq_false e];simp
    rw[<- e2];exact h
  .cases hz;refine Yo (adC ?_);by_cases e:p.2=q.2
   .rw[show (p.2 == q.2)=true by simpa using e];simp only[aeW,YT,if_false];exact Yu ⟨rfl,rfl,.inr (.inr ⟨trivial,e1,e⟩)⟩
   .rw[show (p.2 == q.2)=false by simpa using e];simp only[af5,if_true];refine Yo (abJ (Yo (FU (Yo (Yu (Yu (Yu ⟨_,rfl,λz=>(nomatch z),?_⟩)))))));have e2:fe p q=decide (p.2<q.2):=by unfold fe;rw[e1];simp
    rw[<- e2];exact h
  .cases hz
 .rintro ⟨r1,r2⟩ s' ⟨hr,rfl,hz⟩;simp only at hr;subst hr;rcases hz with hz|⟨hz,_⟩|⟨_,e1,e2⟩
  .cases hz
  .cases hz
  .refine Yu ⟨_,rfl,λz=>(nomatch z),?_⟩;have e3:fe p q=false:=by unfold fe;rw[e1,e2];simp
   rw[e3] at h;exact h
theorem Qi(hh:A.handled=none)(ha:iR s.heap a p)(hb:iR s.heap b q)(hu:A.in1.units<acv)(h:∀ h' tk,(∀ c o,s.heap.get? c=some o->h'.get? c=some o)->Q (.ref (if fe q p=true then b else a)) { s with heap:=h',toks:=tk }):YL (model prog w) A (call (.builtin "min") [.ref a,.ref b]) Q E s:=by
 have nm:(toString "min" ++ toString ".loop" : String) = "min.loop" := by decide
 refine call_function_tree afr afd afe (PySem.F.args_min2 _ _) ?_;show YL _ A.in1 (aax "min" ["key","default"] 0 ⟨[],[]⟩ >>= _) _ _ s;refine Yo (adw (show aax "min" ["key","default"] 0 ⟨[],[]⟩=pure [none,none] from rfl) ?_);show YL _ A.in1 (agk [.ref a,.ref b] >>= _) _ _ s;refine Yo (Zu ?_);have hT:(s.heap.push { cls:=.type "tuple",data:=.seq #[.ref a,.ref b] }).IsTuple s.heap.objs.size #[.ref a,.ref b]:=⟨_,YA _ rfl,rfl,0,rfl⟩
 refine Yo (aeG hT ?_);show YL _ A.in1 (agh [] >>= _) _ _ _;refine Yo (Zu ?_);generalize e1:s.heap.push { cls:=.type "tuple",data:=.seq #[.ref a,.ref b] }=h1 at hT;have z1:h1.objs.size=s.heap.objs.size+1:=by rw[<- e1];exact aab ..
 have k1:∀ c o,s.heap.get? c=some o->h1.get? c=some o:=λc o e=>by rw[<- e1];exact Yt _ e
 dsimp only;generalize e2:h1.push { cls:=.type "tuple_iterator",data:=.fields #[.ref s.heap.objs.size,.int 0 0] }=h2;have z2:h2.objs.size=h1.objs.size+1:=by rw[<- e2];exact aab ..
 have k2:∀ c o,h1.get? c=some o->h2.get? c=some o:=λc o e=>by rw[<- e2];exact Yt _ e
 have W:=Walks.tuple (prog:=prog) (w:=w) (A:=A.in1) hh h1.objs.size s.heap.objs.size (by rw[z1];exact YH (abt _)) #[.ref a,.ref b];have xM:h2.IsTupleIter h1.objs.size s.heap.objs.size 0/\h2.IsTuple s.heap.objs.size #[.ref a,.ref b]:=⟨⟨_,by rw[<- e2];exact YA _ rfl,rfl,rfl⟩,by rw[<- e2];exact hT.push _⟩
 have zs:h2.objs.size∉[h1.objs.size,s.heap.objs.size]:=λz=>by
  simp only[YK,abw,or_false] at z;rcases z with z|z
  .rw[z2] at z;exact afv _ z
  .rw[z2,z1] at z;exact absurd z (by intro z;have:s.heap.objs.size<s.heap.objs.size+1+1:=abj (abt _);rw[z] at this;exact ZK _ this)
 have nS:h2.objs.size∉[h1.objs.size]:=λz=>zs (by simp at z;simp[z]);have up:∀ c o,s.heap.get? c=some o->c∉[h1.objs.size]/\c≠h2.objs.size/\(h2.push { cls:=.type "list",data:=.seq #[] }).get? c=some o:=λc o e=>by have l1:=Yv (k1 c o e);have l2:=Yv (k2 c o (k1 c o e));exact⟨λz=>by simp at z;rw[z] at l1;exact ZK _ l1,YH l2,Yt _ (k2 c o (k1 c o e))⟩
 let G:aaW->Prop:=λh=>iR h a p/\iR h b q;have bD:∀ (x:YC) (r:P2),iR s.heap x r->x∉[h1.objs.size]/\x≠h2.objs.size:=λx r hx=>by obtain⟨o,_,_,_,e,_⟩:=hx;exact⟨(up x o e).1,(up x o e).2.1⟩
 have hG:∀ h h',G h->(∀ b o,b∉[h1.objs.size]->b≠h2.objs.size->h.get? b=some o->h'.get? b=some o)->G h':=λh h' g k=>⟨g.1.keep λo e=>k a o (bD a p ha).1 (bD a p ha).2 e,g.2.keep λo e=>k b o (bD b q hb).1 (bD b q hb).2 e⟩
 let bt:Nat->Nat->Bool:=λi j=>fe (if i=0 then p else q) (if j=0 then p else q);have FV:∀ i v,(#[YU a,YU b]:Array Yy)[i]?=some v->(i=0/\v = .ref a)∨(i=1/\v = .ref b):=λi v e=>by
  match i,e with
  | 0,e=>cases e;exact .inl ⟨rfl,rfl⟩
  | 1,e=>cases e;exact .inr ⟨rfl,rfl⟩
  | i+2,e=>simp at e
 have qC:∀ i j vi vj (s:YB) (Q:Yy->YB->Prop) (E:Yy->YB->Prop),(#[YU a,YU b]:Array Yy)[i]?=some vi->(#[YU a,YU b]:Array Yy)[j]?=some vj->G s.heap->Q (.bool (bt i j)) s->YL (model prog w) A.in1 (adv .Lt vi vj) Q E s:=by
  intro i j vi vj s Q E ei ej g hq;rcases FV i vi ei with ⟨rfl,rfl⟩|⟨rfl,rfl⟩<;>rcases FV j vj ej with ⟨rfl,rfl⟩|⟨rfl,rfl⟩
  .exact uX g.1 g.1 hu hq
  .exact uX g.1 g.2 hu hq
  .exact uX g.2 g.1 hu hq
  .exact uX g.2 g.2 hu hq
 have g0:G (h2.push { cls:=.type "list",data:=.seq #[] }):=⟨ha.keep λo e=>(up a o e).2.2,hb.keep λo e=>(up b o e).2.2⟩
 have oS:(h2.push { cls:=.type "list",data:=.seq #[] }).get? h2.objs.size=some { cls:=.type "list",dict:=none,data:=.seq #[] 0,slots:=#[] }:=YA _ rfl;have n9:=W.frame 0 h2 (h2.push { cls:=.type "list",data:=.seq #[] }) xM λb _ o q=>Yt _ q;rw[nm];refine Yu ⟨aam aaD _,?_⟩;refine Zt abV ?_;rw[Zi aaD _];show YL _ A.in1 (aeO (.ref h2.objs.size) >>= _) _ _ _;refine Yo (abm oS rfl ?_);show YL _ A.in1 (tryCatch (aa9 (.ref h1.objs.size)) _ >>= _) _ _ _;refine Yo (abn (W.item 0 _ _ _ (by simp) n9 λv h3 tk pv dU kp=>?_));have iM:=kp _ _ nS oS;show YL _ A.in1 (ade h2.objs.size (λ_=>#[v,v]) >>= _) _ _ _;refine Yo ?_;refine aaw iM rfl ?_;rw[nm];have g3:G h3:=hG _ _ g0 λb o hw _ e=>kp b o hw e;refine Yu ⟨aam aaD _,(DO (by decide) abV aaD) W hG qC zs 1 0 _ v _ (by simp) (W.frame _ _ _ dU λb hf o e=>?_) (hG _ _ g3 λb o _ lq e=>(YM _ _ (Zj lq)).trans e) pv (Ze _ iM rfl) λv2 h4 Qj p4 k4=>?_⟩
 .exact (YM _ _ (λz:h2.objs.size=b=>zs (by rw[z];exact hf))).trans e
 .have ev:v2 = .ref (if fe q p=true then b else a):=by
   have e4:(#[YU a,YU b]:Array Yy)[acz bt 1]?=some v2:=by simpa using p4
   have yt:acz bt 1=if fe q p=true then 1 else 0:=by show (if bt 1 0 then 1 else 0)=_;rfl
   rw[yt] at e4;by_cases hl:fe q p=true
   .rw[if_pos hl] at e4 ⊢;cases e4;rfl
   .rw[if_neg hl] at e4 ⊢;cases e4;rfl
  subst ev;refine h h4 Qj λc o e=>?_;obtain⟨u1,u2,u3⟩:=up c o e;exact k4 c o u1 u2 ((YM _ _ (Zj u2)).trans (kp c o u1 u3))
def FW(H:Hp)(Q:VK)(xs:List V):Prop:=∃ (a b:YC) (p q:P2),xs=[.ref a,.ref b]/\H a=some (.tup [.int p.1,.int p.2])/\H b=some (.tup [.int q.1,.int q.2])/\Q (.ref (if fe q p=true then b else a)) H
theorem Qk(hc:X.calm=true)(hu:X.A.units+1<acv):dW X (.builtin "min") (λxs H Q=>FW H Q xs):=by
 intro pins s σ H xs us Q I r h;obtain⟨a,b,p,q,rfl,ha,hb,hq⟩:=h;obtain⟨u,v,rfl,ru,rv⟩:=vals2 r;cases ru;cases rv;have pr:∀ (x:YC) (r:P2),H x=some (.tup [.int r.1,.int r.2])->iR s.heap x r:=λx r hx=>by
  obtain⟨_,ao,hv,hi⟩:=(show br X.prog X.w H s.heap x (.tup [.int r.1,.int r.2]) from I.ay x _ hx)
  obtain⟨u1,u2,rfl,⟨t1,rfl⟩,⟨t2,rfl⟩⟩:=vals2 hv;obtain⟨o,ho,bq,n,hd⟩:=hi;exact⟨o,t1,t2,n,ho,bq,hd⟩
 exact Qi (I.ok.hd hc) (pr a p ha) (pr b q hb) (show X.A.units+1<acv from hu) λh' tk k=>⟨.ref _,H,I.kept k,rfl,hq⟩
end
local macro_rules | `(tactic| walk_at "o") => `(tactic| ((try simp only [PySem.Addr] at *); lia))
section
end
section
def FX(vs:List Yy)(kis:List (List Int))(i:Nat):Prop:=∃ x t,vs[i]?=some (.int x t)/\kis.getD i []=[x]
theorem Ql(hk:∀ i,i<vs.length->FX vs kis i):uM prog w h vs kis:=λh2=>by
 refine⟨oneType',λA E s e=>⟨λQ q=>PySem.W.kas_kind (T:=.type "int") h2 (λv hv=>?_) (by decide) (by decide) q,λi j hi hj C q=>?_⟩⟩
 .obtain⟨i,hi,rfl⟩:=aey hv;obtain⟨x,tt,e,_⟩:=hk i hi;rw[Ys hi] at e;rw[Option.some.inj e];exact PySem.W.Looks.now
 .obtain⟨x1,t1,a1,l1⟩:=hk i hi;obtain⟨x2,t2,a2,l2⟩:=hk j hj;rw[Yr,Yr,a1,a2];refine PySem.W.kat_lt_int (cast (congrArg (λb=>C b s) ?_) q);unfold cG;rw[l1,l2,HT.nU];by_cases e:x1=x2
  .rw[if_pos e,e];simp[HT.lexLt]
  .rw[if_neg e]
theorem Qm(hl:kis.length=vs.length)(eM:vs.length<64)(hk:∀ i,i<vs.length->FX vs kis i)(qK:∀ (A':aac) (Q':List Yy->YB->Prop) (E':Yy->YB->Prop),A'.handled=A.handled->(∀ h' tk,(∀ b o,s.heap.get? b=some o->h'.get? b=some o)->s.heap.objs.size<=h'.objs.size->Q' vs { s with heap:=h',toks:=tk })->YL (model prog w) A' (collect (.ref r)) Q' E' s)(q:∀ l h' tk,s.heap.objs.size<=l->(∀ b o,s.heap.get? b=some o->h'.get? b=some o)->(∃ c,h'.get? l=some (aa8 "list" (aaI ((cy (cG kis) vs.length).toList.map λi=>vs.getD i Value.none)) c))->Q (.ref l) { s with heap:=h',toks:=tk }) :
 YL (model prog w) A (call (.builtin "sorted") [.ref r]) Q E s:=EZ hl eM (λg _=>Ql hk) qK q
end
noncomputable def mU(w:ZZ):Bool:=!(w.params.followText "set-order")
section
noncomputable abbrev iS(w:ZZ):Obj:={ cls:=.type "set",dict:=none,data:=.set #[] 0 (.fresh 0 0 (mU w)) }
theorem Qn(a:Yy)(h:Q₁ (.ref s.heap.objs.size) { s with heap:=s.heap.push (iS w) }) :
 abb (model prog w) A (.call (.builtin "set.__new__") ⟨[.type "set",a],[]⟩) (wants Q₁ E) s:=by
 refine afZ (show YL _ A.in1 (do acj "set.__new__" ⟨[.type "set",a],[]⟩;again (.builtin "set.__new__" ⟨[.type "set",a],[]⟩)) _ _ s from ?_);refine Yo (adw (PySem.F.newCall_set_1 a) (Yu ⟨aam ad8 _,Zt PySem.F.entry_set_new ?_⟩));rw[Zi ad8 _];unfold aak.«set.__new__» Builtin.Frozenset.newClass;have uY:=PySem.sub_set_self;obtain⟨hp,g,d,tk,os⟩:=s;dsimp only;wp_walk;refine abz (Yu ?_);dsimp only;simp only[newObj];exact Yo (wpAny_alloc (Yu (Yu h)))
theorem Qo{h:aaW}{S:YC}{o:Obj}{es es':Array (Int × Yy)}{ep:Nat}{t t':agl}(g1:h.get? S=some o)(g3:o.data = .set es ep t) :
 (h.update S (agd es' t')).get? S=some { o with data:=.set es' (ep+1) t' }:=by
 have:=Ze (agd es' t') g1 (by rw[putSet_of es' t' g3];rfl);rw[putSet_of es' t' g3] at this;exact this
theorem FY:∀ {xs:List α} {l:List β},l.Perm (xs.map f)->∃ ys:List α,l=ys.map f/\ys.Perm xs:=by
 intro xs l h;generalize hz:xs.map f=z at h
 induction h generalizing xs with
 | nil=>exact⟨[],rfl,by cases xs with|nil=>exact .nil|cons=>cases hz⟩
 | @cons a l1 l2 p ih =>
  cases xs with
  | nil=>cases hz
  | cons x xs =>
   obtain⟨e1,e2⟩:=List.cons.inj hz;obtain⟨ys,rfl,q⟩:=ih e2;exact⟨x::ys,by rw[<- e1];rfl,q.cons x⟩
 | swap a b l =>
  cases xs with
  | nil=>cases hz
  | cons x xs =>
   cases xs with
   | nil=>simp at hz
   | cons y xs =>
    simp only[YV,List.cons.injEq] at hz;obtain⟨e1,e2,e3⟩:=hz;exact⟨y::x::xs,by simp[e1,e2,e3],.swap x y xs⟩
 | trans p q xX xY =>
  obtain⟨ys,e,r⟩:=xY hz;obtain⟨zs,e',r'⟩:=xX e.symm;exact⟨zs,e',r'.trans r⟩
end
theorem FZ:Slot "set_iterator" "__iter__" "set_iterator.__iter__" :=
 .of (owner := "set_iterator") (n := "__iter__") (by rw[acE,abf];kernel_rfl) (by decide +kernel) (by decide +kernel) (by decide +kernel)
  (by first|exact .inl (by decide +kernel)|exact .inr (by decide +kernel)) (by rw[aeo];kernel_rfl)
theorem Qp:acO table "set_iterator.__iter__" = some aak.«dict_keyiterator.__iter__» :=
 entryFor_alias (id' := "dict_keyiterator.__iter__") (by kernel_rfl) (by first|rfl|decide +kernel) (by decide +kernel) (by kernel_rfl)
theorem Qq(a:Yy):adE "set_iterator.__iter__" ⟨[a],[]⟩:=by unfold adE;rw[signature?_of (id := "set_iterator.__iter__") (n:=['_','_','r','e','t','i','_','_']) (o:=['r','o','t','a','r','e','t','i','_','t','e','s']) (by kernel_rfl) FP];kernel_rfl
theorem F1(f:Nat->Nat):∀ (n k:Nat) (left:List α) (out:Array α),left.length=n->(pickOrder.go f n k left out).toList.Perm (out.toList++left)
 | 0,k,left,out,h=>by obtain rfl:left=[]:=aao.mp h;unfold pickOrder.go;simp
 | n+1,k,left,out,h=>by have hl:f k % left.length<left.length:=Nat.mod_lt _ (by lia);unfold pickOrder.go;rw[Ys hl];refine (F1 f n (k+1) _ _ (by rw[List.length_eraseIdx_of_lt hl];lia)).trans ?_;rw[afi,adg];refine List.Perm.append_left _ ?_;have:=List.perm_middle (a:=left[f k % left.length]) (l₁:=left.take (f k % left.length)) (l₂:=left.drop (f k % left.length+1));rw[List.eraseIdx_eq_take_drop_succ];refine .trans ?_ (.of_eq (aaK (f k % left.length) left));rw[Zs hl];exact this.symm
theorem Qr(f:Nat->Nat)(xs:Array α):(agC f xs).toList.Perm xs.toList:=by unfold agC;simpa using F1 f xs.size 0 xs.toList #[] (by simp)
section
noncomputable def iT(w:ZZ)(S:YC)(ep:Nat)(es:Array (Int × Yy)):Array (Int × Yy):=if w.params.followText "set-order" then agC (w.params.setOrder S ep) es else es
theorem yJ(w:ZZ)(S:YC)(ep:Nat)(es:Array (Int × Yy)):(iT w S ep es).toList.Perm es.toList:=by
 unfold iT;split
 .exact Qr _ _
 .exact .refl _
structure oP(w:ZZ)(S:YC)(o:Obj)(ep:Nat)(t:agl)(L:List (Nat × Int × Yy)):Prop where
 cls:o.cls = .type "set"
 dat:o.data = .set (L.map (·.2)).toArray ep t
 tok:gy t L
 led:t.led=mU w
 pln:t.plain=true
theorem Qs(x:oP w S o ep t L)(h:s.heap.get? S=some o)(q:Q false s):YL (model prog w) A (setDrawn S) Q E s:=by unfold setDrawn age;refine Yo (ab3 h x.dat x.tok.fits ?_);dsimp only;refine Yo (Yo (abz (Yu (Yu ?_))));refine cast (congrArg (λb=>Q b s) ?_) q;symm;rw[Bool.and_eq_false_iff];right;show (!t.plain && _)=false;rw[x.pln];rfl
noncomputable abbrev yK(S:YC)(n ep:Nat)(sl i:Int):Obj:={ cls:=.type "set_iterator",data:=.fields #[abU sl,abU i,.ref S,abU n,abU ep] }
theorem Qt(x:oP w S o ep t L)(h:s.heap.get? S=some o)(hQ:Q (.ref s.heap.objs.size) { s with heap:=s.heap.push (yK S L.length ep 0 0) }):YL (model prog w) A (ags (.ref S)) Q E s:=by have hT:s.TypeIs (.ref S) "set" := ⟨o,h,x.cls⟩;refine adi hT af0 (ZJ af0 hT Qf ?_ (F.args_set_iter_1 _));unfold aak.«frozenset.__iter__»;refine Yo (m:=Builtin.Frozenset.slot0 _ _) (Yu ?_);refine Yo (m:=Builtin.Frozenset.sizeOf _) (Yo (acF h x.dat x.tok.fits (Yu ?_)));refine Yo (Qs x h ?_);simp only[YT,if_false];refine Yo (Yu ?_);refine Yo (wpAny_setEpoch_of h x.dat x.tok.fits ?_);refine Yo (Zu (Yu ⟨_,rfl,"set_iterator",_,⟨_,YA _ rfl,rfl⟩,oO.lookup,?_⟩));refine cast (congrArg (λb=>Q _ { s with heap:=s.heap.push b }) ?_) hQ;simp[yK]
theorem F2(x:oP w S o ep t L)(h:s.heap.get? S=some o)(hb:w.params.followText "set-order" = false->SetTable.below t.place sl=i)(q:∀ eE,(w.params.followText "set-order" = false->i<L.length->SetTable.below t.place eE=i+1)->Q (((iT w S ep (L.map (·.2)).toArray)[i]?).map λe=>(e.2,eE)) s):YL (model prog w) A (agJ S sl i ep) Q E s:=by
 unfold agJ age;refine Yo (ab3 h x.dat x.tok.fits ?_);dsimp only;refine Yo (Yo (abz (Yu ?_)));unfold iT at q;cases hf:w.params.followText "set-order" with
 | true =>
  simp only[hf,if_true] at q;rw[if_pos (show (model prog w).w.params.followText "set-order" = true from hf),if_neg (by simp)];unfold setWalk age;refine Yo (Yo (ab3 h x.dat x.tok.fits ?_));refine Yo (Yo (abz (Yu ?_)));rw[if_pos (show (model prog w).w.params.followText "set-order" = true from hf)];exact Yo (abz (Yu (Yu (q sl (λhz=>nomatch hz)))))
 | false =>
  simp only[hf,YT,if_false] at q;rw[if_neg (show ¬ (model prog w).w.params.followText "set-order" = true from by rw[show (model prog w).w.params.followText "set-order" = false from hf];decide)];refine abR (λz=>absurd (show (!t.plain && _)=true from z) (by rw[x.pln];simp)) (λ_=>?_);have hl:t.led=true:=by rw[x.led];unfold mU;rw[hf];rfl
  refine Yo ?_;show YL _ _ (if (!t.led && !(L.map (·.2)).toArray.isEmpty)=true then _ else pure _) _ _ _;rw[if_neg (by rw[hl];simp)];refine Yu (Yu ?_);rw[hb hf];by_cases hi:i<L.length
  .have e1:(L.map (·.2)).toArray[i]?=some L[i].2:=by simp[hi]
   have e2:t.place[i]?=some L[i].1:=by rw[x.tok.pl];simp[hi]
   have:=q (L[i].1+1) λ_ _=>x.tok.next hi
   rw[e1] at this ⊢;rw[e2];exact this
  .have e1:(L.map (·.2)).toArray[i]?=none:=by simp;lia
   have:=q 0 λ_ hz=>absurd hz hi;rw[e1] at this ⊢;exact this
theorem Qu(hh:A.handled=none)(x:oP w S o ep t L)(bF:S≠I):Walks prog w A I [I,S] [I] L.length (λi v=>((iT w S ep (L.map (·.2)).toArray)[i]?).map (·.2)=some v)
 (λi h=>h.get? S=some o/\∃ sl:Nat,h.get? I=some (yK S L.length ep sl i)/\(w.params.followText "set-order" = false->SetTable.below t.place sl=i)) where
 sub:=λb hb=>by simp at hb;simp[hb]
 frame:=λ_ _ _ st hk=>⟨hk S (by simp) _ st.1,let ⟨sl,a,b⟩:=st.2;⟨sl,hk I (by simp) _ a,b⟩⟩
 item:=λi s Q E hi st hQ=>by
  obtain⟨h1,sl,hI,hb⟩:=st;have hT:s.TypeIs (.ref I) "set_iterator" := ⟨_,hI,rfl⟩;have hlen:(iT w S ep (L.map (·.2)).toArray).size=L.length:=by have:=(yJ w S ep (L.map (·.2)).toArray).length_eq;simpa using this
  have cv:i<(iT w S ep (L.map (·.2)).toArray).size:=by lia
  unfold aa9;refine Yo (abQ (ZO (name:=ZQ "__next__") hT oO
   (ZJ oO hT FQ ?_ (FR _))))
  unfold aak.«set_iterator.__next__»;refine Yo (Yu (Yo (abp hI rfl ?_)));show YL _ _ (setEntries S >>= _) _ _ _;refine Yo (acF h1 x.dat x.tok.fits ?_);refine abR (λz=>absurd z (by simp)) (λ_=>?_);show YL _ _ (agJ S (ad9 (sl:Int)) (ad9 (i:Int)) (ad9 (ep:Int)) >>= _) _ _ _;rw[Zm,Zm,Zm];refine Yo (F2 x h1 hb λeE kj=>?_);rw[Zb cv];dsimp only [Option.map_some];refine Yo (ab5 hI rfl (by simp) ?_);have F3:=Ze (abi (·.setIfInBounds 0 (abU (eE:Int)))) hI rfl;refine Yo (ab5 F3 rfl (by simp[abi]) ?_);have Qv:=Ze (abi (·.setIfInBounds 1 (abU ((i:Int)+1)))) F3 rfl;have F4:∀ (b:YC) (u:Obj),b≠I->s.heap.get? b=some u->((s.heap.update I (abi (·.setIfInBounds 0 (abU (eE:Int))))).update I (abi (·.setIfInBounds 1 (abU ((i:Int)+1))))).get? b=some u:=λb u hb e =>
   (YM _ _ (Zj hb)).trans ((YM _ _ (Zj hb)).trans e)
  refine Yu ⟨_,rfl,Yu (hQ _ _ s.toks (by rw[Zb cv];rfl) ⟨F4 S o bF h1,eE,Qv,λhf=>kj hf hi⟩ λb u hb e=>F4 b u (by simpa using hb) e)⟩
 done:=λs Q E st hQ=>by
  obtain⟨h1,sl,hI,hb⟩:=st;have hT:s.TypeIs (.ref I) "set_iterator" := ⟨_,hI,rfl⟩;have hlen:(iT w S ep (L.map (·.2)).toArray).size=L.length:=by have:=(yJ w S ep (L.map (·.2)).toArray).length_eq;simpa using this
  unfold aa9;refine Yo (abQ (ZO (name:=ZQ "__next__") hT oO
   (ZJ oO hT FQ ?_ (FR _))))
  unfold aak.«set_iterator.__next__»;refine Yo (Yu (Yo (abp hI rfl ?_)));show YL _ _ (setEntries S >>= _) _ _ _;refine Yo (acF h1 x.dat x.tok.fits ?_);refine abR (λz=>absurd z (by simp)) (λ_=>?_);show YL _ _ (agJ S (ad9 (sl:Int)) (ad9 (L.length:Int)) (ad9 (ep:Int)) >>= _) _ _ _;rw[Zm,Zm,Zm];refine Yo (F2 x h1 hb λeE kj=>?_);rw[aa6 (by lia)];show YL _ _ (afy (.ref I) 2 .none >>= _) _ _ s;refine Yo (ab5 hI rfl (by simp) ?_);show YL _ _ (newExc (.type "StopIteration") [] >>= _) _ _ _;refine Yo ?_;simp only[newExc,agk];refine Yo (Zu ?_ (by size_fits));refine Yo (m:=acY _ _) (adw (a:=Value.none) (by first|rfl|(simp only[acY];rfl)) ?_);refine Zu ?_ (by size_fits);simp only[raiseNew];refine Yo (wpAny_handled ?_);rw[show A.in1.handled=none from hh];refine Yo (Yu (wpAny_throw ?_));refine Yo (aby (T := "StopIteration") (b:=true) ⟨_,YA _ rfl,rfl⟩ aem ?_);refine Yu (hQ _ s.toks λb u hb e=>(((ZA ..).extBut.push _).push _) b u (by simpa using hb) e)
 self:=λ_ s _ _ st hQ=>by obtain⟨h1,sl,hI,hb⟩:=st;have hT:s.TypeIs (.ref I) "set_iterator" := ⟨_,hI,rfl⟩;refine adi hT FZ (ZJ FZ hT Qp ?_ (Qq _));show YL _ _ (ret (.ref I)) _ _ s;exact Yu ⟨_,rfl,"set_iterator",_,hT,oO.lookup,hQ⟩
theorem Qw(x:oP w S o ep t L):aen prog w "set" S S L.length (λi v=>((iT w S ep (L.map (·.2)).toArray)[i]?).map (·.2)=some v) (λh=>h.get? S=some o) where
 type:=λ_ h=>⟨o,h,x.cls⟩
 there:=λ_ h=>⟨Yv h,Yv h⟩
 keep:=λ_ _ h hk=>hk S (.inl rfl) o h
 notList:=by decide
 notTuple:=by decide
 hint:=λ_ _ _ _ h hq=>Qg ⟨o,h,x.cls⟩ hq
 iter:=λ_ _ hh h=>⟨_,_,(λ_ _ hq=>Qt x h hq),Qu hh x (YH (Yv h)),
  ⟨Yt _ h,0,YA _ rfl,λ_=>x.tok.zero⟩⟩
noncomputable abbrev kE(m:Int × acG):Int × Yy:=(afz m.1,.int m.1 m.2)
def kF(h:aaW)(S:YC)(M:List (Int × acG))(led:Bool):Prop :=
 ∃ o ep t L,h.get? S=some o/\o.cls = .type "set" /\ o.data = .set (L.map (·.2)).toArray ep t/\gy t L/\t.led=led/\t.plain=true/\L.map (·.2)=M.map kE
theorem Qx(prog:Zo)(w:ZZ){M:List (Int × acG)}:ElemsOf (ach prog w) (M.map kE):=λe he=>by obtain⟨m,_,rfl⟩:=YI.mp he;exact⟨⟨m.1,by simp[ach,abX],rfl⟩,rfl⟩
theorem add_int(hS:kF s.heap S M led)(hlen:M.length<2)(h0:k∈M.map (·.1)->Q false s)(h1:k∉M.map (·.1)->∀ h' M',Heap.SameBut S s.heap h'->kF h' S M' led->M'.Perm ((k,tt)::M)->Q true { s with heap:=h' }) :
 YL (model prog w) A (setAddHashed S (.int k tt) (afz k)) Q E s:=by
 obtain⟨o,ep,t,L,g1,g2,g3,tk,g4,g5,g7⟩:=hS;have X5:L.length=M.length:=by have:=congrArg List.length g7;simpa using this
 have qU:ElemsOf (ach prog w) (L.map (·.2)).toArray.toList:=by rw[acH,g7];exact Qx prog w
 unfold setAddHashed setAddHashedIn;refine ZL (Yo (ab3 g1 g3 tk.fits ?_));dsimp only;rw[byScan_of (knd:=ach prog w) rfl (by rw[YD,Yq];unfold scanBound;lia) qU];simp only[if_true];unfold setAddByScan;refine Yo (Yo (abJ ?_));refine Yo (wpAny_setScan_of (knd:=ach prog w) (k:=k) (by simp[ach,abX]) g1 g3 tk.fits qU ?_);rw[acH,g7];by_cases bI:k∈M.map (·.1)
 .obtain⟨m,hm,hmk⟩:=YI.mp bI;cases hf:agn (λe=>(ach prog w).is k e.2) (M.map kE) with
  | none =>
   have:=ac1.mp hf (kE m) (YI.mpr ⟨m,hm,rfl⟩);rw[<- hmk] at this;simp[ach,abX] at this
  | some j =>
   dsimp only;exact Yu (Yu (h0 bI))
 .have hf:agn (λe=>(ach prog w).is k e.2) (M.map kE)=none:=by refine ac1.mpr λe he=>?_;obtain⟨m,hm,rfl⟩:=YI.mp he;simp only[ach,abX];exact beq_eq_false_iff_ne.mpr λz=>bI (YI.mpr ⟨m,hm,z⟩)
  rw[hf];dsimp only;obtain⟨j,j0,j1⟩:=tk.free (by lia) (afz k);obtain⟨t',p,L',p1,p2,p3,p5,p6,p7,hperm⟩:=tk.put (by lia) j1 (afz k) (aaO k tt);have Qy:layNew t (M.map kE).toArray (afz k) (.int k tt)=((L'.map (·.2)).toArray,t',false,false):=by rw[<- g7];unfold layNew;rw[j0];dsimp only;rw[p1,p3];have:=p2.fits;unfold SetTable.orStandIn;rw[this];rfl
  rw[Qy];dsimp only;refine Yo ?_;show YL _ _ (pure ()) _ _ _;refine Yu ?_;rw[p6,g5];simp only[if_true];refine Yo ?_;rw[hashByValue_scannable 8 (show (aaO k tt).scannable=true from rfl)];refine Yu ?_;rw[show plainKind (aaO k tt)=true from rfl];simp only[if_true];have hsz:(L'.map (·.2)).toArray.size<=YR:=by have:=hperm.length_eq;simp at this ⊢;rw[this];exact Yw (show _<=64 by lia) (by decide)
  refine Yo (wpAny_storeSet_of g1 g3 ?_ hsz);have gS:=Qo (es':=(L'.map (·.2)).toArray) (t':=t') g1 g3;have Qz:=ZA s.heap S (agd (L'.map (·.2)).toArray t');have oQ:(L'.map (·.2)).Perm (((k,tt)::M).map kE):=by refine (hperm.map (·.2)).trans ?_;simp only[YV,g7];exact .refl _
  have QA:t'.tooFull=false:=by unfold SetTable.tooFull;rw[p7,p2.ma];simp;lia
  rw[QA];simp only[aek,YT,if_false];obtain⟨M',e1,e2⟩:=FY oQ;exact Yu (Yu (h1 bI _ M' Qz ⟨_,_,t',_,gS,g2,rfl,p2,p5.trans g4,p6.trans g5,e1⟩ e2))
def qV(key:Nat->Int)(i:Nat)(M:List (Int × acG)):Prop :=
 (M.map (·.1)).Nodup/\(∀ m∈M,∃ j,j<i/\m.1=key j)/\(∀ j,j<i->key j∈M.map (·.1))/\M.length<=i
theorem QC(e:h.get? S=some (iS w)):kF h S [] (mU w) :=
 ⟨_,0,_,([]:List (Nat × Int × Yy)),e,rfl,rfl,⟨rfl,rfl,rfl,.inl rfl⟩,rfl,rfl,rfl⟩
theorem QD{R:aeJ->YB->Prop}{I:YC}{fp wr:List YC}{G:Array GenState->Array GenState->Prop}{n:Nat}{P:Nat->Yy->Prop}{St:Nat->YB->Prop}(W:WalksS prog w A.in1 I fp wr G n P St)(S:YC)(og:S∉fp){key:Nat->Int}{led:Bool}(QE:∀ i v,P i v->∃ tt,v = .int (key i) tt)(hn:n<=2) :
 ∀ (k i:Nat) (s:YB) (M:List (Int × acG)),n-i=k->i<=n->St i s->kF s.heap S M led->qV key i M ->
  (∀ s' M',Moved (S::wr) G s s'->kF s'.heap S M' led->qV key n M'->R (.ok (.ret .none)) s') ->
  abb (model prog w) A (.builtin "set.update.loop" ⟨[.ref S,.ref I],[]⟩) R s:=by
 have F5:S∉wr:=λh=>og (W.sub _ h);have uY:∀ b∈wr,b∈S::wr:=λb hb=>Zh _ hb;intro k
 induction k with
 | zero =>
  intro i s M hk hi cn hS hM hR;obtain rfl:i=n:=by lia
  refine Zt abq ?_;rw[Zi aaq _];refine show YL _ A.in1 (aa9 (.ref I) >>= _) _ _ s from Yo (W.done s _ _ cn λs' hm=>?_);exact show YL _ A.in1 (ret Value.none) _ _ s' from Yu (hR s' M (hm.mono uY) (let ⟨o,ep,t,L,ho,rest⟩:=hS;⟨o,ep,t,L,hm.heap S _ F5 ho,rest⟩) hM)
 | succ k ih =>
  intro i s M hk hi cn hS hM hR;have aT:i<n:=by lia
  refine Zt abq ?_;rw[Zi aaq _];refine show YL _ A.in1 (aa9 (.ref I) >>= _) _ _ s from Yo (W.item i s _ _ aT cn λv s' hP QF hm=>?_);obtain⟨tt,rfl⟩:=QE i v hP;have kG:kF s'.heap S M led:=let ⟨o,ep,t,L,ho,rest⟩:=hS;⟨o,ep,t,L,hm.heap S _ F5 ho,rest⟩;refine show YL _ A.in1 (holding [aaO (key i) tt] (setAdd S (.int (key i) tt)) >>= _) _ _ s' from Yo (ZL ?_);unfold setAdd;refine ZL (Yo ((ach prog w).pyHash (k:=key i) (by simp[ach,abX]) ?_));have go:∀ (h':aaW) (M':List (Int × acG)),Heap.SameBut S s'.heap h'->kF h' S M' led->qV key (i+1) M' ->
   YL (model prog w) A.in1 (again (.builtin "set.update.loop" ⟨[.ref S,.ref I],[]⟩)) (λfin s'=>match fin with|.done f=>R (.ok f) s'|.again c'=>c'.quiet=true/\abb (model prog w) A c' R s') (λe s'=>R (.error e) s') { s' with heap:=h',toks:=s'.toks+1 }:=by
   intro h' M' jD yL QG;refine Yu ⟨aam aaq _,ih (i+1) _ M' (by lia) aT (W.frame _ s' _ _ QF (acx _) λb hb o e=>?_) yL QG λqk QH QJ QK QL=>?_⟩
   .rw[jD.2 b (λh:b=S=>og (by rw[<- h];exact hb))];exact e
   .refine hR qk QH (Moved.trans W.gtrans ((hm.mono uY).then_heap (acx _) λb o hb e=>?_) QJ) QK QL;rw[jD.2 b (λh:b=S=>hb (by rw[h];exact aa7))];exact e
  refine add_int (s:={ s' with toks:=s'.toks+1 }) (M:=M) kG (by have:=hM.2.2.2;lia) (λbI=>?_) (λbI h' M' jD yL oQ=>?_)
  .refine go s'.heap M (Heap.SameBut.refl S s'.heap) kG ⟨hM.1,λm hm=>?_,λj hj=>?_,by have:=hM.2.2.2;lia⟩
   .obtain⟨j,hj,e⟩:=hM.2.1 m hm;exact⟨j,by lia,e⟩
   .by_cases e:j=i
    .rw[e];exact bI
    .exact hM.2.2.1 j (by lia)
  .refine go h' M' jD yL ⟨((oQ.map (·.1)).nodup_iff).mpr (ZC.mpr ⟨bI,hM.1⟩),λm hm=>?_,λj hj=>?_,by have:=oQ.length_eq;have:=hM.2.2.2;simp at *;lia⟩
   .rcases YK.mp (oQ.mem_iff.mp hm) with rfl|hm
    .exact⟨i,by lia,rfl⟩
    .obtain⟨j,hj,e⟩:=hM.2.1 m hm;exact⟨j,by lia,e⟩
   .refine ((oQ.map (·.1)).mem_iff).mpr ?_;by_cases e:j=i
    .rw[e];exact aa7
    .exact Zh _ (hM.2.2.1 j (by lia))
theorem QM(hh:A.handled=none)(hl:s.heap.IsList l items)(hn:items.size<=2)(hit:∀ (i:Nat) (v:Yy),items[i]?=some v->∃ tt,v = .int (key i) tt)(h:∀ (h':aaW) (tk:Nat) (M:List (Int × acG)),kF h' s.heap.objs.size M (mU w)->qV key items.size M->(∀ b o,b<s.heap.objs.size->s.heap.get? b=some o->h'.get? b=some o)->Q (.ref s.heap.objs.size) { s with heap:=h',toks:=tk }) :
 YL (model prog w) A (call (.type "set") [.ref l]) Q E s:=by
 obtain⟨c,tl,hmro⟩:=PySem.F.called_set.mro;have X6:=PySem.F.called_set.made;have uY:=PySem.F.called_set.sub;refine ae7 (afZ (show YL _ _ (callAny (.type "set") _) _ _ _ from Yu ⟨Code.quiet_builtin _ (by decide +kernel),Zt PySem.F.entry_type_call ?_⟩));rw[Around.under_plain (weight_type_call_type "set" [.ref l] []) rfl];have h1:=PySem.F.called_set.notType;have h2:=PySem.F.called_set.canCreate;have X7:=PySem.F.typeCall_set_1 (.ref l);repeat (any_goals (first|assumption|wp_step))
 refine ab7 (Qn (.ref l) (E:=E) (Q₁:=λobj s₁=>obj = .ref s.heap.objs.size/\s₁ = { s with heap:=s.heap.push (iS w) }) ⟨rfl,rfl⟩) λr s₁ hr=>?_;cases r with
 | error e=>exact hr
 | ok fl =>
  cases fl with
  | ret obj =>
   obtain⟨rfl,rfl⟩:=hr;have gS:(s.heap.push (iS w)).get? s.heap.objs.size=some (iS w):=YA _ rfl;have hT:Shared.TypeIs { s with heap:=s.heap.push (iS w) } (.ref s.heap.objs.size) "set" := ⟨_,gS,rfl⟩;have lF:=PySem.F.called_set.init.lookup;have F6:=PySem.F.called_set.init.bind (.ref s.heap.objs.size)
   repeat (any_goals (first|assumption|wp_step))
   refine ab7 (abl (R:=wants (λr s₂=>r = .none/\∃ h' tk M,s₂ = { s with heap:=h',toks:=tk }/\kF h' s.heap.objs.size M (mU w)/\qV key items.size M /\
    (∀ b o,b<s.heap.objs.size->s.heap.get? b=some o->h'.get? b=some o)) E) PySem.F.called_set.init.plain PySem.F.entry_set_init (check_set_init_1 hT ?_)) λr₂ s₂ yM=>?_
   .have lt:l<s.heap.objs.size:=let ⟨_,e,_⟩:=hl;Yv e;obtain⟨ol,hol,bq,nl,hdl⟩:=id hl;obtain⟨ocls,odict,odata,oslots⟩:=ol;obtain rfl:ocls = .type "list" := bq;obtain rfl:odata = .seq items nl:=hdl;have QN:(s.heap.push (iS w)).get? l=some { cls:=.type "list",dict:=odict,data:=.seq items nl,slots:=oslots }:=Yt _ hol;have X9:=PySem.F.sub_list_set;have Ya:=PySem.F.sub_list_frozenset;have bF:(ac4 "list" == ac4 "dict")=false:=by decide
    have kH:(s.heap.push (iS w)).IsList l items:=⟨_,QN,rfl,nl,rfl⟩
    unfold aak.«set.__init__» noKeywords Builtin.Frozenset.updateFrom;generalize QO:ags=PI;wp_walk;subst QO;refine abY kH (Yo (wpAny_runValue ?_));have QP:A.in1.in1.in1.handled=none:=by simp[hh]
    have yN:(s.heap.push (iS w)).objs.size=s.heap.objs.size+1:=aab _ _;have lI:l≠(s.heap.push (iS w)).objs.size:=by rw[yN];exact YH (abj lt)
    have SI:s.heap.objs.size∉[(s.heap.push (iS w)).objs.size,l]:=by rw[yN];simp only[YK,abw,or_false,not_or];exact⟨YH (abt _),Zx lt⟩
    refine QD ((Walks.list QP _ l lI items).toS) s.heap.objs.size SI (key:=key) (led:=mU w) hit hn (items.size-0) 0 _ [] (by lia) (YS _)
     ⟨⟨_,YA _ rfl,rfl,rfl⟩,(kH.push _)⟩ (QC (Yt _ gS))
     ⟨ac0,λ_ hx=>(by cases hx),λj hj=>(by lia),YS _⟩ λs' M hm kG hM=>?_
    obtain⟨h',g',d',yO,nT⟩:=s';obtain rfl:g'=s.gens:=hm.gens;obtain rfl:d'=s.drawn:=hm.drawn;obtain rfl:nT=s.os:=hm.os;show YL _ _ _ _ _ _;refine Yu (show YL _ _ (ret Value.none) _ _ _ from Yu ⟨rfl,h',yO,M,rfl,kG,hM,λb o hb e=>?_⟩);refine hm.heap b o ?_ (Yt _ (Yt _ e));simp only[YK,abw,or_false,not_or,yN];exact⟨YH hb,YH (abj hb)⟩
   .cases r₂ with
    | error e=>exact yM
    | ok QQ =>
     cases QQ with
     | ret r =>
      obtain⟨rfl,h',tk,M,rfl,kG,hM,gU⟩:=yM
      repeat (any_goals (first|assumption|wp_step))
      exact h _ _ M kG hM gU
     | _=>exact yM.elim
  | _=>exact hr.elim
end
theorem QS(kis:List (List Int))(ns:List Int):dq kis V.non (ns.map V.int)=(dq kis 0 ns).map V.int:=by unfold dq;rw[ZH,Yq];refine aaA λi hi=>?_;have hp:=(ou (n:=ns.length) (mK kis)).1;have:i<ns.length:=Zp.mp (hp.mem_iff.mp hi);simp[af1,this]
theorem F7:∀ M:List (Int × acG),Vals ((M.map (·.1)).map V.int) (M.map λm=>aaO m.1 m.2)
 | []=>.nil
 | m::M=>.cons ⟨m.2,rfl⟩ (F7 M)
def F8(K:Yp)(t:TE):TE:=λσ H Q=>t σ H λv H1=>∃ (a:YC) (ns:List Int),v=V.ref a/\ai K H1 a (ns.map V.int)/\ns.length<=2 /\
 ∀ zs:List Int,zs.Nodup->(∀ x,x∈zs↔x∈ns)->zs.Pairwise (· <= ·)->∀ l,H1 l=none->Q (.ref l) (upd H1 l (.lst (zs.map V.int)))
section
theorem QT(hc:X.calm=true)(he:PE X e t)(mV:Gl X "sorted")(yP:X.mg "sorted" = none)(oR:Zf "sorted" = some (.builtin "sorted"))(qW:Gl X "set")(lG:X.mg "set" = none)(oT:Zf "set" = some (.type "set"))(cA:YQ [e] X.env=[(false,eval e X.env)]:=by rfl)(qX:YQ [.Call (.Name "set" p2) [e] [] fR] X.env=[(false,eval (.Call (.Name "set" p2) [e] [] fR) X.env)]:=by rfl) :
 PE X (.Call (.Name "sorted" p1) [.Call (.Name "set" p2) [e] [] fR] [] pos) (F8 X.K t):=by
 intro pins s σ H Q I h;refine ZP (eX I mV yP oR ?_ (by decide) (by decide));refine aaX ?_ (by rw[qX];rfl) rfl;rw[qX];show YL _ _ (spliced ((false,eval (.Call (.Name "set" p2) [e] [] fR) X.env)::aap pos [])) _ _ s;refine aae ?_;refine ZP (eX I qW lG oT ?_ (by decide) (by decide));refine Y7 ?_ (by rw[cA];rfl) rfl;rw[cA];show YL _ _ (spliced ((false,eval e X.env)::aap fR [])) _ _ s;refine aae (aB (he pins s σ H _ I h) λu s1 zq=>?_);obtain⟨x,H1,I1,r1,q1⟩:=zq;obtain⟨a,ns,rfl,hS,hn,q⟩:=q1;cases r1;refine aas ?_;obtain⟨us,rv,pl,hz⟩:=I1.list hS;have hl:us.length=ns.length:=by have:=rv.length;rw[Yq] at this;lia
 have hint:=intsAre_of rv;refine QM (items:=us.toArray) (key:=λi=>ns.getD i 0) (I1.ok.hd hc) pl.isList (by simp;lia) (λi v hv=>?_) λh2 tk M QU hM hk=>?_
 .exact IntsAre.int_at hint i v (by simpa using hv)
 refine aas ?_;obtain⟨o,ep,tb,L,g1,g2,g3,yO,g4,g5,g7⟩:=QU;have hx:oP X.w s1.heap.objs.size o ep tb L:=⟨g2,g3,yO,g4,g5⟩
 have hsz:us.toArray.size=us.length:=by simp
 rw[hsz] at hM;obtain⟨m1,m2,m3,m4⟩:=hM;have QV:L.length=M.length:=by have:=congrArg List.length g7;simpa using this
 have hp:((iT X.w s1.heap.objs.size ep (L.map (·.2)).toArray).toList).Perm (M.map kE):=by have:=yJ X.w s1.heap.objs.size ep (L.map (·.2)).toArray;rw[acH,g7] at this;rw[g7];exact this
 obtain⟨M',e1,e2⟩:=FY hp;have Yb:M'.length=L.length:=e2.length_eq.trans QV.symm;have fA:(M'.map (·.1)).Nodup:=((e2.map (·.1)).nodup_iff).mpr m1;have QW:=F7 M';refine Qm (s:={ s1 with heap:=h2,toks:=tk }) (kis:=M'.map λm=>[m.1]) (vs:=M'.map λm=>aaO m.1 m.2) (by simp) (by simp;lia) (λi hi=>?_) (λA' Q' E' hA hq=>?_) λl h' uu k1 k2 k3=>?_
 .have cv:i<M'.length:=by simpa using hi
  exact⟨M'[i].1,M'[i].2,by simp[cv],by simp[af1,cv]⟩
 .refine E1 (s:={ s1 with heap:=h2,toks:=tk }) (Qw hx) (hA.trans (I1.ok.hd hc)) g1 (Yw (show L.length<=64 by lia) (by decide)) λh3 xN acc b1 b2 b3=>?_;have QX:acc.toList=M'.map λm=>aaO m.1 m.2:=by
   refine ab1 λi=>?_;rw[ace];by_cases hi:i<L.length
   .have cv:i<acc.size:=by rw[b3.1];exact hi
    have F9:i<M'.length:=by lia
    have:=b3.2 i acc[i] (Zb cv);dsimp only at this;have e3:(iT X.w s1.heap.objs.size ep (L.map (·.2)).toArray)[i]?=some (kE M'[i]):=by rw[<- ace,e1];simp[F9]
    rw[e3] at this;rw[Zb cv,<- this];simp[F9]
   .rw[aa6 (by rw[b3.1];lia)];rw[eq_comm,List.getElem?_eq_none_iff];simp only[Yq];lia
  rw[QX];exact hq h3 xN b1 b2
 .refine E5 (s:=s1) (ks:=(M'.map (·.1)).map V.int) (kis:=M'.map λm=>[m.1]) (us:=M'.map λm=>aaO m.1 m.2) I1 QW ?_ ?_ (λb u e=>k2 b u (hk b u (Yv e) e)) k3 λl' pQ=>?_
  .simp only[Yq];exact Yw (show _<=64 by lia) (by decide)
  .exact Yw (ab6 (Yv g1)) k1
  .rw[QS];refine q _ ((ox.nodup_iff).mpr fA) (λx=>?_) ?_ l' pQ
   .rw[ox.mem_iff,(e2.map (·.1)).mem_iff];constructor
    .intro gU;obtain⟨m,hm,rfl⟩:=YI.mp gU;obtain⟨j,hj,ej⟩:=m2 m hm;have:j<ns.length:=by lia
     rw[ej];simp[af1,this]
    .intro gU;obtain⟨j,hj,rfl⟩:=aey gU;have:=m3 j (by lia);simpa [af1,hj] using this
   .have:=Oc (kis:=M'.map λm=>[m.1]) (d:=(0:Int)) (as:=M'.map (·.1)) (f:=λx=>[x]) (by rw[ZH];rfl);refine this.imp λ{a b} eZ=>?_;rw[HT.nU] at eZ;by_cases e:b=a
    .lia
    .rw[if_neg e] at eZ;have:=of_decide_eq_false eZ;lia
def Ga(r r' qE:R2)(ta tb tc td:TE):TE:=λσ H Q=>ta σ H λx H1=>tb σ H1 λy H2=>r x y H2 λz H3=>∃ k,z = .bl k /\
 (if k=true then tc σ H3 λw' H4=>r' y w' H4 λz2 H5=>∃ k2,z2 = .bl k2/\(if k2=true then td σ H5 λw2 H6=>qE w' w2 H6 Q else Q (.bl false) H5) else Q (.bl false) H3)
theorem QY(ho:aX X (Zw op) r)(b7:aX X (Zw gM) r')(QZ:aX X (Zw Gb) qE)(ha:PE X a ta)(hb:PE X b tb)(hc:PE X c tc)(hd:PE X d td)(hm:afC [op,gM,Gb] [b,c,d]=false:=by with_unfolding_all rfl):PT X (.Compare a [op,gM,Gb] [b,c,d] pos) (t4 (Ga r r' qE ta tb tc td)):=by
 intro pins s σ H Q I h;refine isTrue_chain (aB (ha pins s σ H _ I h) λv s1 ⟨x,H1,I1,r1,q1⟩=>agt (aB (hb pins s1 σ H1 _ I1 q1) λu s2 ⟨y,H2,I2,r2,q2⟩ =>
  aB (ho pins s2 σ H2 x y v u _ I2 r1 r2 q2) λd s3 ⟨z,H3,I3,r3,k,e,q3⟩=>?_)) hm
 subst e;cases r3;refine Zg ?_;cases k with
 | false =>
  obtain⟨k',e',q'⟩:=q3;cases e';exact (if_neg (by decide)).mpr ⟨H3,I3,q'⟩
 | true =>
  refine (if_pos rfl).mpr (agt (aB (hc pins s3 σ H3 _ I3 q3) λw' s4 ⟨z',H4,I4,r4,q4⟩=>aB (b7 pins s4 σ H4 y z' u w' _ I4 r2 r4 q4) λd2 s5 zq=>?_));obtain⟨z2,H5,I5,r5,k2,e2,q5⟩:=zq;subst e2;cases r5;refine Zg ?_;cases k2 with
  | false =>
   obtain⟨k',e',q'⟩:=q5;cases e';exact (if_neg (by decide)).mpr ⟨H5,I5,q'⟩
  | true =>
   refine (if_pos rfl).mpr (test_last (aB (hd pins s5 σ H5 _ I5 q5) λw2 s6 ⟨z3,H6,I6,r6,q6⟩=>aB (QZ pins s6 σ H6 z' z3 w' w2 _ I6 r4 r6 q6) λd' s7 zq=>?_));obtain⟨z4,H7,I7,r7,k3,e3,q7⟩:=zq;subst e3;cases r7;exact Zg ⟨H7,I7,q7⟩
end
noncomputable def Ge:S2->List S2
 | (none,none)=>[]
 | (some l,none)=>[(none,some (l-1))]
 | (none,some h)=>[(some (h+1),none)]
 | (some l,some h)=>[(none,some (l-1)),(some (h+1),none)]
noncomputable def fh(i j:Int)(s:S2):List Pa:=(YZ (j+1-i).toNat).map λk=>("at",i+(k:Nat),s)
def c9(H:Hp)(v:V)(ps:List Pa):Prop:=∃ l xs,v = .ref l/\H l=some (.lst xs)/\dF H xs ps
theorem c9.same(h:c9 H v ps)(s:aj H H'):c9 H' v ps:=let ⟨l,xs,e,a,b⟩:=h;⟨l,xs,e,s _ _ a,b.same s⟩
def g9(H0 H:Hp)(v:V)(ps:List Pa):Prop:=∃ c xs,v = .ref c/\H0 c=none/\H c=some (.lst xs)/\dF H xs ps
theorem g9.same(h:g9 H0 H v ps)(s:aj H H'):g9 H0 H' v ps:=let ⟨c,xs,e,n,a,b⟩:=h;⟨c,xs,e,n,s _ _ a,b.same s⟩
def jL(H0:Hp)(l:YC)(H:Hp)(v:V)(ps:List Pa):Prop:=∃ c xs,v = .ref c/\c≠l/\H0 c=none/\H c=some (.lst xs)/\dF H xs ps
theorem jL.same(h:jL H0 l H v ps)(s:aj H H'):jL H0 l H' v ps:=let ⟨c,xs,e,m,n,a,b⟩:=h;⟨c,xs,e,m,n,s _ _ a,b.same s⟩
theorem jL.put(h:jL H0 l H v ps)(hl:H l=some (.lst ys)):jL H0 l (upd H l o) v ps:=let ⟨c,xs,e,m,n,a,b⟩:=h;⟨c,xs,e,m,n,by rw[aD m];exact a,b.put hl⟩
theorem jL.Q3(h:jL H0 l H v ps):g9 H0 H v ps:=let ⟨c,xs,e,_,n,a,b⟩:=h;⟨c,xs,e,n,a,b⟩
theorem EY(s:S2):(Ge s).length<=2:=by obtain⟨a,b⟩:=s;cases a<;>cases b<;>simp[Ge]
theorem oU(i j:Int)(s:S2):(fh i j s).length=(j+1-i).toNat:=by unfold fh;rw[Yq,YE]
noncomputable def qY(i j l h:Int):List (List Pa):=(YZ (j-i).toNat).flatMap λk=>(fh (i+(k:Nat)+1) j (some h,none)).map λp=>[(("at",i+(k:Nat),none,some l):Pa),p]
noncomputable def jM(u:Yy):Bool:=match u with|.none=>true|_=>false
noncomputable def kI(v:V):Bool:=decide (v = .non)
def oV(H:Hp)(xs:List V):Prop:=∀ v∈xs,v = .non ∨ ∃ a ys,v = .ref a/\H a=some (.tup ys)
section
theorem Gf{x:V}{u:Yy}{H:Hp}(r:RelV x u)(h:x = .non ∨ ∃ a ys,x = .ref a/\H a=some (.tup ys)):jM u=kI x:=by
 rcases h with rfl|⟨a,ys,rfl,_⟩
 .cases r;rfl
 .cases r;rfl
theorem Gg:∀ {xs:List V} {us:List Yy},Vals xs us->oV H xs->us.any jM=xs.any kI
 | _,_,.nil,_=>rfl
 | x::xs,u::us,.cons r t,f=>by rw[ZN,ZN,Gf r (f x (.head _)),Gg t λv hv=>f v (.tail _ hv)]
theorem yQ:∀ {xs:List V} {us:List Yy},Vals xs us->oV H xs->∀ (m:Nat) (h:m<us.length),jM us[m]=kI (xs.getD m .non)
 | _,_,.nil,_,m,h=>absurd h (aad _)
 | x::xs,u::us,.cons r t,f,0,h=>Gf r (f x (.head _))
 | x::xs,u::us,.cons r t,f,m+1,h=>yQ t (λv hv=>f v (.tail _ hv)) m (adQ h)
theorem yS(I:Inv X pins σ H s)(hu:A.units<acv):∀ {xs:List V} {us:List Yy},Vals xs us->oV H xs->∀ u∈us,SeqAt.EqAt A s u .none (jM u)
 | _,_,.nil,_=>λu hu=>by cases hu
 | x::xs,u::us,.cons r t,f=>λu' yT=>by
  rcases YK.mp yT with rfl|yT
  .rcases f x (.head _) with rfl|⟨a,ys,rfl,ha⟩
   .cases r;exact SeqAt.EqAt.same _
   .cases r;obtain⟨_,ao,r',o',k1,k2,n,k3⟩:=(show br X.prog X.w H s.heap a (.tup ys) from I.ay a _ ha)
    exact SeqAt.EqAt.tuple_none ⟨o',k1,k2,n,k3⟩ hu
  .exact yS I hu t (λv hv=>f v (.tail _ hv)) u' yT
def Q4(K:Yp):R2:=λx y H Q=>∃ a xs,x = .non/\y = .ref a/\ai K H a xs/\oV H xs/\Q (.bl (xs.any kI)) H
theorem Gh(hu:X.A.units+1<acv):aX X (Zw .In) (Q4 X.K):=by intro pins s σ H x y v u Q I rx ry h;obtain⟨a,xs,rfl,rfl,hq,hn,q⟩:=h;cases rx;cases ry;obtain⟨ao,r,pl,hz⟩:=I.list hq;refine SeqAt.in_listAt jM pl.isList (λw hw=>yS I (A:=X.A.in1) (aaJ (knd:=eo X.prog X.w) hu) r hn w (by simpa using hw)) ⟨.bl _,H,I,rfl,?_⟩;rw[show ao.toArray.any jM=ao.any jM by simp,Gg r hn];exact q
def Q5(K:Yp)(x:V)(ys:List V)(H:Hp)(Q:VK):Prop:=∃ a xs j,x = .ref a/\ys=[.non]/\ai K H a xs/\oV H xs/\j<xs.length/\xs.length<=1000/\kI (xs.getD j .non)=true/\(∀ m,m<j->kI (xs.getD m .non)=false)/\Q (.int (j:Nat)) H
theorem Gi(hu:X.A.units+1<acv):CS X "list.index" (Q5 X.K):=by
 intro pins s σ H x xs v us Q I rx r h;obtain⟨a,xs,j,rfl,rfl,hq,hn,hj,hl,h1,h2,q⟩:=h;cases rx;obtain⟨u,rfl,ru⟩:=vals1 r;cases ru;obtain⟨ao,r,pl,hz⟩:=I.list hq;obtain⟨⟨cls,dd,data,sl⟩,ho,hc,n,hd⟩:=id pl.isList;simp only at hc hd;subst hc hd;have hlen:ao.length=xs.length:=(Vals.length r).symm;refine afa abS ⟨_,ho,rfl⟩ PySem.F.entry_list_index (PySem.F.args_list_index_2 _ _)
  (SeqAt.list_indexAt a ao.toArray n dd sl .none jM j (by simpa [hlen] using hj) (by lia) ?_ ?_) ⟨ho,λy hy=>yS I (A:=X.A.in1) (aaJ (knd:=eo X.prog X.w) hu) r hn y (by simpa using hy),?_⟩
 .show jM ao[j]=true;rw[yQ r hn];exact h1
 .intro m hm aT;show jM ao[m]=false;rw[yQ r hn];exact h2 m aT
 .exact⟨.int j,H,I.tok _,⟨_,rfl⟩,q⟩
end
noncomputable def fS(p:P2):W2:=some (some p.1,some p.2)
theorem Gj:∀ (ss:List S2) (a b:Int),∃ a' b',aY (some a,some b) ss=(some a',some b')
 | [],a,b=>⟨a,b,rfl⟩
 | s::ss,a,b=>by
  rw[uP];have h1:∃ x,dt (some a) s.1=some x:=by rcases s.1 with _|c<;>exact⟨_,rfl⟩
  have h2:∃ x,dw (some b) s.2=some x:=by rcases s.2 with _|c<;>exact⟨_,rfl⟩
  obtain⟨x,hx⟩:=h1;obtain⟨y,hy⟩:=h2;rw[hx,hy];exact Gj ss x y
theorem Q6(h:fb (none,none) ((some a,some b)::ss)=some s):∃ p:P2,some s=fS p/\p.1<=p.2:=by
 unfold fb at h;rw[uP] at h;obtain⟨x,y,e⟩:=Gj ss a b;rw[show (dt (none,none).1 (some a,some b).1,dw (none,none).2 (some a,some b).2)=((some a,some b):S2) from rfl,e] at h;split at h
 .cases h
 .rename_i hc;cases h;exact⟨(x,y),rfl,by simpa [aW] using hc⟩
theorem Gk(hf:∀ k s,f k=some s->∃ p:P2,some s=fS p/\p.1<=p.2):∀ (ks:List Nat),(∀ k∈ks,f k≠none)->∃ pp:List P2,ks.map f=pp.map fS/\d8 pp
 | [],_=>⟨[],rfl,λ_ h=>nomatch h⟩
 | k::ks,h=>by
  obtain⟨pp,e,ho⟩:=Gk hf ks λj hj=>h j (.tail _ hj);cases hk:f k with
  | none=>exact absurd hk (h k (.head _))
  | some s =>
   obtain⟨p,e1,e2⟩:=hf k s hk;refine⟨p::pp,by rw[YV,YV,e,hk,e1],λq hq=>?_⟩;rcases YK.mp hq with rfl|hq
   .exact e2
   .exact ho q hq
theorem all_some:∀ (ws:List W2),(∀ w∈ws,w≠none)->∃ gs:List S2,ws=gs.map some
 | [],_=>⟨[],rfl⟩
 | w::ws,h=>by
  obtain⟨gs,e⟩:=all_some ws λj hj=>h j (.tail _ hj);cases w with
  | none=>exact absurd rfl (h none (.head _))
  | some s=>exact⟨s::gs,by rw[e];rfl⟩
theorem yU:∀ {ys:List V} {ws:List W2},az (fJ H) ys ws->oV H ys/\(ys.any kI=ws.any abk)/\∀ m,kI (ys.getD m .non)=(ws.getD m none).isNone
 | [],[],_=>⟨(λ_ h=>nomatch h),rfl,λ_=>rfl⟩
 | y::ys,w::ws,h=>by
  obtain⟨h1,h2⟩:=h;obtain⟨a,b,c⟩:=yU h2;have key:(y = .non ∨ ∃ a ys,y = .ref a/\H a=some (.tup ys))/\kI y=w.isNone:=by
   cases w with
   | none =>
    obtain rfl:y = .non:=h1;exact⟨.inl rfl,rfl⟩
   | some s =>
    obtain⟨p,rfl,hp⟩:=h1;exact⟨.inr ⟨p,_,rfl,hp⟩,rfl⟩
  refine⟨λv hv=>?_,by rw[ZN,ZN,b,key.2],λm=>?_⟩
  .rcases YK.mp hv with rfl|hv
   .exact key.1
   .exact a v hv
  .cases m with
   | zero=>exact key.2
   | succ m=>exact c m
 | [],_::_,h=>h.elim
 | _::_,[],h=>h.elim
theorem yV:∀ {xs:List α},xs.any p=true->∃ j,j<xs.length/\p (xs.getD j d)=true/\∀ m,m<j->p (xs.getD m d)=false
 | [],h=>by cases h
 | x::xs,h=>by
  cases hx:p x with
  | true=>exact⟨0,Nat.zero_lt_succ _,hx,λm hm=>absurd hm (aad _)⟩
  | false =>
   rw[ZN,hx,agj] at h;obtain⟨j,h1,h2,h3⟩:=yV (d:=d) h;refine⟨j+1,Nat.succ_lt_succ h1,h2,λm hm=>?_⟩;cases m with
   | zero=>exact hx
   | succ m=>exact h3 m (adQ hm)
theorem Gm{ws:List W2}(h:ws.any abk=false):∀ w∈ws,w≠none:=λw hw e=>by have:=ae2.mp h w hw;rw[e] at this;exact this rfl
theorem Gn:∀ {ys:List V} {pp:List P2},az (fJ H) ys (pp.map fS)->bL H ys pp
 | [],[],_=>trivial
 | _::_,_::_,h=>⟨h.1,Gn h.2⟩
 | [],_::_,h=>h.elim
 | _::_,[],h=>h.elim
theorem kA.reach(T:kA ps ms tp):∀ (n t:Nat) {v k:Int},t+n<=ps.length ->
 (tp t=some (v,k)->∃ v' k',tp (t+n)=some (v',k')/\v'<=v+(pre (·.2) ps (t+n)-pre (·.2) ps t)) /\
 (tp (t+n)=some (v,k)->∃ v' k',tp t=some (v',k')/\v'<=v+(pre (·.1) ps t-pre (·.1) ps (t+n)))
 | 0,t,v,k,_=>⟨λh=>⟨v,k,h,by simp⟩,λh=>⟨v,k,h,by simp⟩⟩
 | n+1,t,v,k,hn=>by
  refine⟨λh=>?_,λh=>?_⟩
  .obtain⟨v1,k1,e1,h1⟩:=(T.reach n t (by lia)).1 h;obtain⟨v2,k2,e2,h2⟩:=T.fwd (t+n) v1 k1 (by lia) e1;refine⟨v2,k2,e2,?_⟩;rw[show t+(n+1)=(t+n)+1 by lia,fK _ ps (by lia)];lia
  .obtain⟨v1,k1,e1,h1⟩:=T.bwd (t+n) v k (by lia) h;obtain⟨v2,k2,e2,h2⟩:=(T.reach n t (by lia)).2 e1;refine⟨v2,k2,e2,?_⟩;rw[show t+(n+1)=(t+n)+1 by lia,fK _ ps (by lia)];lia
theorem Q7(T:kA ps ms tp)(hm:∀ m∈ms,m.1<=ps.length)(hn:∀ m∈ns,m.1<=ps.length)(h0:qP ns tp)(ha:a∈ms)(hb:b∈ns):¬ clash ps a b:=by
 rintro ⟨h,l,e1,e2,aT⟩;obtain⟨v,k,e3,h3⟩:=T.top a ha h e1;have qr:=hm a ha;have bS:=hn b hb;have key:∃ v' k',tp b.1=some (v',k')/\v'<=v+bw ps a.1 b.1:=by
  unfold bw;by_cases hle:a.1<=b.1
  .rw[if_pos hle];obtain⟨n,jg⟩:∃ n,b.1=a.1+n:=⟨b.1-a.1,by lia⟩
   rw[jg];exact (T.reach n a.1 (by lia)).1 e3
  .rw[if_neg hle];obtain⟨n,jg⟩:∃ n,a.1=b.1+n:=⟨a.1-b.1,by lia⟩
   rw[jg] at e3 ⊢;exact (T.reach n b.1 (by lia)).2 e3
 obtain⟨v',k',e4,h4⟩:=key;have:=h0 b hb l v' k' e2 e4;lia
theorem yW:m∈lD tb i ↔ ∃ r∈tb,r.1.1=i/\m=(r.1.2.toNat,r.2):=by
 unfold lD;simp only[YI,Y4,decide_eq_true_eq];constructor
 .rintro ⟨r,⟨h1,h2⟩,rfl⟩;exact⟨r,uV.mem_iff.mp h1,h2,rfl⟩
 .rintro ⟨r,h1,h2,rfl⟩;exact⟨r,⟨uV.mem_iff.mpr h1,h2⟩,rfl⟩
noncomputable def qZ(e:Nat)(tb:Tb):List (Int × List Mk):=(YZ e).map λ(i:Nat)=>((i:Int),lD tb (i:Int))
theorem Q8(hp:d8 ps)(ht:t<ps.length):bw ps i (t+1)<=bw ps i t+(aE ps t).2:=by
 have h:=hp _ (oq ht);have e1:=fK (·.1) ps ht;have e2:=fK (·.2) ps ht;unfold bw;split<;>split<;>first|lia|(have z:i=t+1:=(by lia);subst z;lia)
theorem Ra(hp:d8 ps)(ht:t<ps.length):bw ps i t<=bw ps i (t+1)-(aE ps t).1:=by
 have h:=hp _ (oq ht);have e1:=fK (·.1) ps ht;have e2:=fK (·.2) ps ht;unfold bw;split<;>split<;>first|lia|(have z:i=t+1:=(by lia);subst z;lia)
theorem Rb(ps:List P2)(i:Nat):bw ps i i<=0:=by unfold bw;split<;>lia
theorem Gq(hp:d8 ps)(ms:List Mk):∀ n,n<=ms.length->∃ tp,kA ps (ms.take n) tp
 | 0,_=>⟨λ_=>none,⟨λ_ _ _ _ e=>(nomatch e),λ_ h=>(nomatch h),λ_ _ _ _ e=>(nomatch e),λ_ _ _ _ e=>(nomatch e)⟩⟩
 | n+1,hn=>by
  obtain⟨tp,T⟩:=Gq hp ms n (by lia);have hm:ms[n]?=some ms[n]:=Ys (by lia);generalize ms[n]=m at hm;have et:ms.take (n+1)=ms.take n++[m]:=by rw[ZI,hm];rfl
  have tl:(ms.take n).length=n:=by rw[aaF];lia
  cases hi:m.2.2 with
  | none =>
   refine⟨tp,⟨λt v k ht e=>?_,λa ha h e=>?_,T.fwd,T.bwd⟩⟩
   .obtain⟨i,a,h,h1,h2,h3⟩:=T.val t v k ht e;have:=(Yx.mp h2).1;exact⟨i,a,h,h1,by rw[et,Zl this];exact h2,h3⟩
   .rw[et] at ha;rcases Y3.mp ha with z|z
    .exact T.top a z h e
    .rw[Zc.mp z,hi] at e;cases e
  | some h0 =>
   have one:∀ t v k,(match tp t with|some (v,k)=>if h0+bw ps m.1 t<v then some (h0+bw ps m.1 t,(n:Int)) else some (v,k)|none=>some (h0+bw ps m.1 t,(n:Int)))=some (v,k) ->
    v<=h0+bw ps m.1 t/\(∀ v' k',tp t=some (v',k')->v<=v')/\((v=h0+bw ps m.1 t/\k=(n:Int))∨tp t=some (v,k)):=by
    intro t v k e;cases h1:tp t with
    | none =>
     rw[h1] at e;cases e;exact⟨Zv _,λ_ _ z=>(nomatch z),.inl ⟨rfl,rfl⟩⟩
    | some q =>
     obtain⟨v1,k1⟩:=q;rw[h1] at e;dsimp only at e;split at e
     .cases e;refine⟨Zv _,λv' k' z=>?_,.inl ⟨rfl,rfl⟩⟩;cases z;lia
     .cases e;refine⟨by lia,λv' k' z=>?_,.inr rfl⟩;cases z;exact Zv _
   have ex:∀ t,∃ v k,(match tp t with|some (v,k)=>if h0+bw ps m.1 t<v then some (h0+bw ps m.1 t,(n:Int)) else some (v,k)|none=>some (h0+bw ps m.1 t,(n:Int)))=some (v,k):=λt=>by
    cases h1:tp t with
    | none=>exact⟨_,_,rfl⟩
    | some q =>
     obtain⟨v1,k1⟩:=q;dsimp only;split<;>exact⟨_,_,rfl⟩
   refine⟨λt=>match tp t with|some (v,k)=>if h0+bw ps m.1 t<v then some (h0+bw ps m.1 t,(n:Int)) else some (v,k)|none=>some (h0+bw ps m.1 t,(n:Int)),⟨λt v k ht e=>?_,λa ha h e=>?_,λt v k ht e=>?_,λt v k ht e=>?_⟩⟩
   .obtain⟨_,_,⟨rfl,rfl⟩|e1⟩:=one t v k e
    .exact⟨n,m,h0,rfl,by rw[et,Zz (by lia),tl,aea];rfl,hi,Zv _⟩
    .obtain⟨i,a,h,h1,h2,h3⟩:=T.val t v k ht e1;have:=(Yx.mp h2).1;exact⟨i,a,h,h1,by rw[et,Zl this];exact h2,h3⟩
   .obtain⟨v,k,e1⟩:=ex a.1;obtain⟨o1,o2,_⟩:=one _ _ _ e1;refine⟨v,k,e1,?_⟩;rw[et] at ha;rcases Y3.mp ha with z|z
    .obtain⟨v',k',e2,h2⟩:=T.top a z h e;have:=o2 v' k' e2;lia
    .rw[Zc.mp z] at e o1;rw[hi] at e;cases e;have:=Rb ps m.1;lia
   .obtain⟨v',k',e1⟩:=ex (t+1);obtain⟨o1,o2,_⟩:=one _ _ _ e1;refine⟨v',k',e1,?_⟩;obtain⟨_,_,⟨rfl,rfl⟩|e3⟩:=one t v k e
    .have:=Q8 hp (i:=m.1) ht;lia
    .obtain⟨v2,k2,e4,h4⟩:=T.fwd t v k ht e3;have:=o2 _ _ e4;lia
   .obtain⟨v',k',e1⟩:=ex t;obtain⟨o1,o2,_⟩:=one _ _ _ e1;refine⟨v',k',e1,?_⟩;obtain⟨_,_,⟨rfl,rfl⟩|e3⟩:=one (t+1) v k e
    .have:=Ra hp (i:=m.1) ht;lia
    .obtain⟨v2,k2,e4,h4⟩:=T.bwd t v k ht e3;have:=o2 _ _ e4;lia
theorem Rc(hp:d8 ps)(hm:∀ m∈ms,m.1<=ps.length)(hc:∀ a∈ms,∀ b∈ms,¬ clash ps a b):∃ c,gZ ps c/\meets ms c:=by
 obtain⟨tp,T⟩:=Gq hp ms ms.length (Yz _);rw[ZR] at T;refine Pj hp hm T λm cO l v k e1 e2=>?_;rcases Int.lt_or_le v l with h|h
 .obtain⟨i,a,_,h2,h3⟩:=T.clash (hm m cO) e2 e1 h;exact absurd h3 (hc a (YF h2) m cO)
 .exact h
abbrev Cl:=(En × Nat) × (En × Nat)
noncomputable def gA(e:Int)(c:Cl):Bool:=decide (c.1.1=some e) || decide (c.2.1=some e)
noncomputable def wo(e:Int)(cs:List Cl):List Cl:=cs.filter λc=>!gA e c
def gn:Nat->List Cl->Prop
 | 0,_=>True
 | _+1,[]=>False
 | n+1,c::cs=>∀ e,gA e c=true->gn n (wo e (c::cs))
def q8(es:List Int)(cs:List Cl):Prop:=∀ c∈cs,∃ e∈es,gA e c=true
theorem Rf(h:q8 es (wo e cs)):q8 (e::es) cs:=λc hc=>by
 cases hb:gA e c with
 | true=>exact⟨e,.head _,hb⟩
 | false =>
  obtain⟨x,hx,h1⟩:=h c (Y4.mpr ⟨hc,by rw[hb];rfl⟩);exact⟨x,.tail _ hx,h1⟩
inductive Pp where
 | nil:Pp
 | full:Pp
 | cls:Cl->Pp->Pp->Pp
noncomputable def lH:Nat->List Cl->Pp
 | 0,_=>.full
 | _+1,[]=>.full
 | n+1,c::cs=>.cls c (match c.1.1 with|none=>.nil|some e=>lH n (wo e (c::cs))) (if c.1.1=c.2.1 then .nil else match c.2.1 with|none=>.nil|some e=>lH n (wo e (c::cs)))
def iU(gs:List S2)(tb:Tb)(as:List Int)(s:En × Nat)(m:Mk):Prop:=m.1=s.2/\match s.1 with|none=>gs[s.2]?=some m.2|some e=>e∉as/\((e,(s.2:Int)),m.2)∈tb
def Val(ps:List P2)(gs:List S2)(tb:Tb)(mo:Int):Pp->List Int->Prop
 | .nil,_=>False
 | .full,as=>mo<as.length
 | .cls c a b,as=>(∃ m n,iU gs tb as c.1 m/\iU gs tb as c.2 n/\clash ps m n)/\(match c.1.1 with|none=>a = .nil|some e=>Val ps gs tb mo a (as++[e]))/\(match c.2.1 with|none=>b = .nil|some e=>if c.1.1=some e then b = .nil else Val ps gs tb mo b (as++[e]))
theorem mW:gA e c=true↔c.1.1=some e∨c.2.1=some e:=by unfold gA;rw[acA,decide_eq_true_eq,decide_eq_true_eq]
theorem Gr:∀ (n:Nat) (cs:List Cl) (as:List Int),gn n cs->(as.length:Int)+n=mo+1->(∀ c∈cs,∃ m n,iU gs tb as c.1 m/\iU gs tb as c.2 n/\clash ps m n)->Val ps gs tb mo (lH n cs) as
 | 0,_,as,_,h,_=>by show mo<as.length;lia
 | n+1,[],_,h,_,_=>h.elim
 | n+1,c::cs,as,h,hl,hs=>by
  have sub:∀ e,gA e c=true->Val ps gs tb mo (lH n (wo e (c::cs))) (as++[e]):=λe he=>by
   refine Gr n _ _ (h e he) (by rw[YO,YY];lia) λc' j4=>?_;obtain⟨h1,h2⟩:=Y4.mp j4;obtain⟨m,k,a1,a2,a3⟩:=hs c' h1;have h3:gA e c'=false:=by cases hh:gA e c' with|false=>rfl|true=>rw[hh] at h2;cases h2
   have h4:∀ x,c'.1.1=some x∨c'.2.1=some x->x≠e:=λx hx z=>by subst z;rw[mW.mpr hx] at h3;cases h3
   refine⟨m,k,⟨a1.1,?_⟩,⟨a2.1,?_⟩,a3⟩
   .have:=a1.2;cases hx:c'.1.1 with
    | none=>rw[hx] at this;exact this
    | some x =>
     rw[hx] at this;refine⟨λz=>?_,this.2⟩;rcases Y3.mp z with z|z
     .exact this.1 z
     .exact h4 x (.inl hx) (Zc.mp z)
   .have:=a2.2;cases hx:c'.2.1 with
    | none=>rw[hx] at this;exact this
    | some x =>
     rw[hx] at this;refine⟨λz=>?_,this.2⟩;rcases Y3.mp z with z|z
     .exact this.1 z
     .exact h4 x (.inr hx) (Zc.mp z)
  refine⟨hs c (.head _),?_,?_⟩
  .cases hx:c.1.1 with
   | none=>rfl
   | some e=>exact sub e (mW.mpr (.inl hx))
  .cases hx:c.2.1 with
   | none=>dsimp only;split<;>rfl
   | some e =>
    dsimp only;by_cases he:c.1.1=some e
    .rw[if_pos he,if_pos he]
    .rw[if_neg he,if_neg he];exact sub e (mW.mpr (.inr hx))
abbrev Gp:=En × List Mk
def uZ(ps:List P2)(gs:List Gp)(cs:List Cl):Prop:=∀ c∈cs,∃ g∈gs,∃ h∈gs,∃ m∈g.2,∃ n∈h.2,c=((g.1,m.1),(h.1,n.1))/\clash ps m n
def jN(ps:List P2)(g h:Gp)(cs:List Cl):Prop:=∀ m∈g.2,∀ n∈h.2,clash ps m n->∃ c∈cs,c.1.1=g.1/\c.2.1=h.1
theorem jN.more(x:jN ps g h cs):jN ps g h (cs++ds):=λm hm n hn hc=>let ⟨c,h1,h2⟩:=x m hm n hn hc;⟨c,Z4 _ h1,h2⟩
noncomputable def jO(gs:List Mk)(e:Nat)(tb:Tb):List Gp:=(none,gs)::(qZ e tb).map λr=>(some r.1,r.2)
theorem yX:m∈dP tb es ↔ ∃ r∈tb,r.1.1∉es/\m=(r.1.2.toNat,r.2):=by
 unfold dP;constructor
 .intro h;obtain⟨r,hr,rfl⟩:=YI.mp h;obtain⟨h1,h2⟩:=Y4.mp hr;exact⟨r,uO h1,by simpa using h2,rfl⟩
 .rintro ⟨r,hr,h1,rfl⟩;exact YI.mpr ⟨r,Y4.mpr ⟨ox.mem_iff.mpr hr,by simpa using h1⟩,rfl⟩
theorem Gs(ay:bV e t tb)(h:m∈gm++dP tb es):∃ g∈jO gm e.toNat tb,m∈g.2/\∀ x,g.1=some x->x∉es:=by
 rcases Y3.mp h with z|z
 .exact⟨_,.head _,z,λx hx=>nomatch hx⟩
 .obtain⟨r,hr,h1,rfl⟩:=yX.mp z;have ho:=ay.2 r hr;unfold mP at ho;refine⟨(some r.1.1,lD tb r.1.1),.tail _ (YI.mpr ⟨(r.1.1,lD tb r.1.1),YI.mpr ⟨r.1.1.toNat,Zp.mpr (by lia),by rw[aaB ho.1.1]⟩,rfl⟩),yW.mpr ⟨r,hr,rfl,rfl⟩,λx hx=>?_⟩;cases hx;exact h1
theorem Rg(ay:bV e t tb)(hp:d8 ps)(hm:∀ m∈gm++dP tb es,m.1<=ps.length)(hc:q8 es cs)(hx:∀ g∈jO gm e.toNat tb,∀ h∈jO gm e.toNat tb,jN ps g h cs):∃ c,gZ ps c/\meets (gm++dP tb es) c :=
 Rc hp hm λa ha b hb eZ=>by
  obtain⟨g,h1,h2,h3⟩:=Gs ay ha;obtain⟨h,k1,k2,k3⟩:=Gs ay hb;obtain⟨c,c1,c2,c3⟩:=hx g h1 h k1 a h2 b k2 eZ;obtain⟨x,x1,x2⟩:=hc c c1;rcases mW.mp x2 with z|z
  .exact h3 x (c2.symm.trans z) x1
  .exact k3 x (c3.symm.trans z) x1
theorem snd_mk(ay:bV e t tb)(hg:∀ m∈gm,gs[m.1]?=some m.2)(h:uZ ps (jO gm e.toNat tb) cs):∀ c∈cs,∃ m n,iU gs tb [] c.1 m/\iU gs tb [] c.2 n/\clash ps m n:=λc hc=>by
 obtain⟨g,h1,k,h2,m,h3,n,h4,rfl,h5⟩:=h c hc;have one:∀ g∈jO gm e.toNat tb,∀ m∈g.2,iU gs tb [] (g.1,m.1) m:=λg mV m hm=>by
  rcases YK.mp mV with rfl|z
  .exact⟨rfl,hg m hm⟩
  .obtain⟨q,hq,rfl⟩:=YI.mp z;obtain⟨i,_,rfl⟩:=YI.mp hq;obtain⟨r,hr,e1,rfl⟩:=yW.mp hm;have ho:=ay.2 r hr;unfold mP at ho;refine⟨rfl,abw,?_⟩;show (((i:Int),((r.1.2.toNat:Nat):Int)),r.2)∈tb;rw[aaB ho.2.1,<- e1];exact hr
 exact⟨m,n,one g h1 m h3,one k h2 n h4,h5⟩
section
end
abbrev jP(h:aaW)(e it:YC)(i:Int)(old:Yy)(a:YC)(f:Bool):Prop :=
 h.get? e=some { cls:=.type "enumerate",dict:=none,data:=.fields #[abU a,.bool f,.ref it,abU i,.none,old],slots:=#[] }
section
theorem Rh{e it l a:YC}{f:Bool}{oa:Obj}{i:Nat}{items:Array Yy}{x old:Yy}{Q:Option Yy->YB->Prop}
 (he:jP s.heap e it i old a f) (ha:s.heap.get? a=some oa) (Ri:a≠e) (Rj:a≠it) (hit:s.heap.IsListIter it l i) (hl:s.heap.IsList l items) (hx:items[i]?=some x) (bF:e≠it)
 (hQ:∀ h',jP h' e it ((i:Int)+1) old a true->h'.IsListIter it l (i+1) ->
   h'.get? s.heap.objs.size=some { cls:=.type "tuple",data:=.seq #[.int i s.toks,x] }->h'.objs.size=s.heap.objs.size+1 ->
   (∀ b o,b≠e->b≠it->s.heap.get? b=some o->h'.get? b=some o)->Q (some (.ref s.heap.objs.size)) { s with heap:=h',toks:=s.toks+1 }) :
 YL (model prog w) A (aa9 (.ref e)) Q E s:=by
 have hT:s.TypeIs (.ref e) "enumerate" := ⟨_,he,rfl⟩;obtain⟨hp,g,d,tk,os⟩:=s;unfold aa9;refine Yo (abQ (ZO (name:=ZQ "__next__") hT aaC
  (ZJ aaC hT acp ?_ (ack _))))
 show YL _ _ (field (.ref e) 2 >>= _) _ _ _;refine Yo (acI he rfl (x:=.ref it) rfl ?_);refine Yo (wpAny_nextOf_list_item hit hl hx λh₁ Gu oW=>?_);replace oW:Heap.SameBut it hp h₁:=oW;have u5:jP h₁ e it i old a f:=(oW.2 e bF).trans he;show YL _ _ (field (.ref e) 3 >>= _) _ _ ⟨h₁,g,d,tk,os⟩;refine Yo (acI u5 rfl (x:=abU i) rfl ?_);show YL _ _ (field (.ref e) 4 >>= _) _ _ ⟨h₁,g,d,tk,os⟩;refine Yo (acI u5 rfl (x:=.none) rfl ?_);show YL _ _ (mkInt i >>= _) _ _ ⟨h₁,g,d,tk,os⟩;refine Yo (wpAny_mkInt ?_);show YL _ _ (afy (.ref e) 3 (abU ((i:Int)+1)) >>= _) _ _ ⟨h₁,g,d,tk+1,os⟩;refine Yo (acR u5 (by simp) λh₂ u7 oX=>?_);replace oX:Heap.SameBut e h₁ h₂:=oX;replace u7:jP h₂ e it ((i:Int)+1) old a f:=u7;show YL _ _ (afy (.ref e) 4 .none >>= _) _ _ ⟨h₂,g,d,tk+1,os⟩;refine Yo (acR u7 (by simp) λh₃ vc oY=>?_);replace oY:Heap.SameBut e h₂ h₃:=oY;replace vc:jP h₃ e it ((i:Int)+1) old a f:=vc;show YL _ _ (agk [.int i tk,x] >>= _) _ _ ⟨h₃,g,d,tk+1,os⟩;refine Yo (wpAny_newTuple ?_);have rf:jP (h₃.push { cls:=.type "tuple",data:=.seq #[.int i tk,x] }) e it ((i:Int)+1) old a f:=Yt _ vc;generalize rg:h₃.push { cls:=.type "tuple",data:=.seq #[.int i tk,x] }=h₄ at rf;have hsz:h₃.objs.size=hp.objs.size:=by rw[oY.1,oX.1,oW.1]
 have qU:e<hp.objs.size:=Yv he;have Rk:h₄.get? hp.objs.size=some { cls:=.type "tuple",data:=.seq #[.int i tk,x] }:=by rw[<- rg,<- hsz];exact YA _ rfl
 have Rl:h₄.objs.size=hp.objs.size+1:=by rw[<- rg,aab,hsz]
 have Gv:∀ b o,b≠e->b≠it->hp.get? b=some o->h₄.get? b=some o:=λb o je F6 hb=>by rw[<- rg];exact Yt _ (oY.extBut b o je (oX.extBut b o je (oW.extBut b o F6 hb)))
 have Rm:h₄.IsListIter it l (i+1):=by rw[<- rg];obtain⟨o,ho,r⟩:=(Gu.extBut oX.extBut (Zj bF)).extBut oY.extBut (Zj bF);exact⟨o,Yt _ ho,r⟩
 show YL _ _ (abG (.ref e) >>= _) _ _ ⟨h₄,g,d,tk+1,os⟩;rw[hsz];clear rg vc oY u7 oX u5 oW Gu hsz h₃ h₂ h₁;have Rn:h₄.get? a=some oa:=Gv a oa Ri Rj ha;refine Yo ?_;unfold abG;refine Yo (acI rf rfl (x:=abU a) rfl ?_);show YL _ _ (loadIfAlive ((a:Int).toNat) >>= _) _ _ _;rw[Zm];refine Yo (PySem.W.kdx_alive Rn ?_);simp only[Option.isNone_some,YT,if_false];refine Yo (acI rf rfl (x:=.bool f) rfl ?_);have fin:∀ h₅:aaW,jP h₅ e it ((i:Int)+1) old a true->Heap.SameBut e h₄ h₅->Q (some (.ref hp.objs.size)) ⟨h₅,g,d,tk+1,os⟩:=λh₅ rh lJ =>
  hQ h₅ rh (Rm.extBut lJ.extBut (Zj bF)) (lJ.extBut _ _ (Zx qU) Rk) (by show h₅.objs.size=hp.objs.size+1;rw[lJ.1,Rl]) λb o Gw kx q=>lJ.extBut b o Gw (Gv b o Gw kx q)
 cases f with
 | true =>
  rw[if_neg (show ¬ ((Z3 true != Z3 true)=true) from YN)];refine Yu ?_;simp only[YT,if_false];exact Yu ⟨_,rfl,Yu (fin h₄ rf (Heap.SameBut.refl _ _))⟩
 | false =>
  rw[if_pos (show (Z3 false != Z3 true)=true from rfl)];refine Yo (acR rf (by simp) λh₅ rh lJ=>?_);replace lJ:Heap.SameBut e h₄ h₅:=lJ;replace rh:jP h₅ e it ((i:Int)+1) old a true:=rh;refine Yu ?_;simp only[YT,if_false];exact Yu ⟨_,rfl,Yu (fin h₅ rh lJ)⟩
theorem Ro{e it l a:YC}{f:Bool}{i:Nat}{items:Array Yy}{old:Yy}{Q:Option Yy->YB->Prop}(hh:A.handled=none)
 (he:jP s.heap e it i old a f) (hit:s.heap.IsListIter it l i) (hl:s.heap.IsList l items) (hx:items[i]?=none)
 (hQ:∀ h',afV it s.heap h'->Q none { s with heap:=h' }):YL (model prog w) A (aa9 (.ref e)) Q E s:=by
 have hT:s.TypeIs (.ref e) "enumerate" := ⟨_,he,rfl⟩;unfold aa9;refine Yo (abQ (ZO (name:=ZQ "__next__") hT aaC
  (ZJ aaC hT acp ?_ (ack _))))
 show YL _ _ (field (.ref e) 2 >>= _) _ _ _;refine Yo (acI he rfl (x:=.ref it) rfl ?_);refine Yo (wpAny_nextOf_list_end hh hit hl hx λh' x oE cN=>?_);obtain⟨o,ho,hc⟩:=cN;refine Yo (aby (T := "StopIteration") (b:=true) ⟨o,ho,hc⟩ aem ?_);exact Yu (hQ _ oE)
def mX(h:aaW)(e it S:YC)(i:Nat):Prop :=
 (∃ old,IsEnum h e it i old) ∨ ∃ old a f oa,jP h e it i old a f/\h.get? a=some oa/\a≠e/\a≠it/\a≠S
theorem mX.keep(x:mX h e it S i)(hk:∀ b o,b≠S->h.get? b=some o->h'.get? b=some o)(hI:e≠S):mX h' e it S i:=by
 rcases x with ⟨old,q⟩|⟨old,a,f,oa,q,ha,h1,h2,h3⟩
 .exact .inl ⟨old,hk _ _ hI q⟩
 .exact .inr ⟨old,a,f,oa,hk _ _ hI q,hk _ _ h3 ha,h1,h2,h3⟩
theorem Rp(st:mX s.heap e it S i)(hS:S<s.heap.objs.size)(hit:s.heap.IsListIter it l i)(hl:s.heap.IsList l items)(hx:items[i]?=some x)(bF:e≠it)(hQ:∀ h',mX h' e it S (i+1)->h'.IsListIter it l (i+1) ->
 h'.get? s.heap.objs.size=some { cls:=.type "tuple",data:=.seq #[.int i s.toks,x] }->h'.objs.size=s.heap.objs.size+1 ->
 (∀ b o,b≠e->b≠it->s.heap.get? b=some o->h'.get? b=some o)->Q (some (.ref s.heap.objs.size)) { s with heap:=h',toks:=s.toks+1 }) :
 YL (model prog w) A (aa9 (.ref e)) Q E s:=by
 have ce:((i:Int)+1)=((i+1:Nat):Int):=by lia
 have hi:it<s.heap.objs.size:=let ⟨_,q,_⟩:=hit;Yv q;rcases st with ⟨old,he⟩|⟨old,a,f,oa,he,ha,h1,h2,h3⟩
 .exact adN he hit hl hx bF λh' q1 q2 q3 q4 q5=>hQ h' (.inr ⟨x,_,false,_,by rw[<- ce];exact q1,q3,Zx (Yv he),Zx hi,Zx hS⟩) q2 q3 q4 q5
 .exact Rh he ha h1 h2 hit hl hx bF λh' q1 q2 q3 q4 q5=>hQ h' (.inr ⟨old,a,true,oa,by rw[<- ce];exact q1,q5 a oa h1 h2 ha,h1,h2,h3⟩) q2 q3 q4 q5
theorem Rq(hh:A.handled=none)(st:mX s.heap e it S i)(hit:s.heap.IsListIter it l i)(hl:s.heap.IsList l items)(hx:items[i]?=none)(hQ:∀ h',afV it s.heap h'->Q none { s with heap:=h' }):YL (model prog w) A (aa9 (.ref e)) Q E s:=by
 rcases st with ⟨old,he⟩|⟨old,a,f,oa,he,_⟩
 .exact ad0 hh he hit hl hx hQ
 .exact Ro hh he hit hl hx hQ
end
structure kJ(items:Array Yy)(lo:YC)(h:aaW)(as:List YC):Prop where
 rise:as.Pairwise (· < ·)
 above:∀ a∈as,lo<=a
 pairs:∀ (j:Nat) (a:YC),as[j]?=some a->∃ t x,items[j]?=some x/\h.get? a=some { cls:=.type "tuple",data:=.seq #[.int j t,x] }
theorem kJ.there{items:Array Yy}{lo:YC}{h:aaW}{as:List YC}(g:kJ items lo h as){a:YC}(ha:a∈as):a<h.objs.size:=by obtain⟨j,hj⟩:=Zy.mp ha;obtain⟨_,_,_,e⟩:=g.pairs j a hj;exact Yv e
theorem kJ.keep{items:Array Yy}{lo:YC}{h h':aaW}{as:List YC}(g:kJ items lo h as)(k:∀ b o,lo<=b->h.get? b=some o->h'.get? b=some o):kJ items lo h' as :=
 ⟨g.rise,g.above,λj a hj=>let ⟨t,x,e1,e2⟩:=g.pairs j a hj;⟨t,x,e1,k a _ (g.above a (YF hj)) e2⟩⟩
section
variable{prog:Zo}{w:ZZ}{A:aac}{s:YB}{R:aeJ->YB->Prop}{items:Array Yy}
theorem Rr{S e it l lo:YC}(hh:A.handled=none)(bF:e≠it)(oZ:S≠e)(o4:S≠it)(vd:l≠S)(hle:l≠e)(lF:l≠it)(Gx:S<lo)(Rt:e<lo)(Gy:it<lo)(hn:items.size<=YR)(res:Yy){h₁:aaW}
 (hR:∀ h' tk acc c as,(∀ b o,b≠S->b≠e->b≠it->h₁.get? b=some o->h'.get? b=some o)->h'.get? S=some { cls:=.type "list",dict:=none,data:=.seq acc c,slots:=#[] }->as.length=items.size->kJ items lo h' as ->
   acc.toList=as.map YU->R (.ok (.ret res)) { s with heap:=h',toks:=tk }) :
 ∀ (k i:Nat) (h:aaW) (tk c:Nat) (acc:Array Yy) (as:List YC),items.size-i=k->i<=items.size->mX h e it S i->h.IsListIter it l i->h.IsList l items->(∀ b o,b≠S->b≠e->b≠it->h₁.get? b=some o->h.get? b=some o) ->
  h.get? S=some { cls:=.type "list",dict:=none,data:=.seq acc c,slots:=#[] }->acc.toList=as.map YU->as.length=i->kJ items lo h as->lo<=h.objs.size ->
  abb (model prog w) A (.builtin "list.extend.loop" ⟨[.ref S,.ref e,res],[]⟩) R { s with heap:=h,toks:=tk }:=by
 intro k
 induction k with
 | zero =>
  intro i h tk c acc as hk hi cn hit hl yY hS fO lK hG hz;have bI:i=items.size:=by lia
  refine Zt ac2 ?_;rw[Zi aaN _];show YL _ A.in1 (aa9 (.ref e) >>= _) _ _ _;refine Yo (Rq (s:={ s with heap:=h,toks:=tk }) (A:=A.in1) hh cn hit hl (aa6 (by lia)) λh' he=>?_);exact Yu (hR h' tk acc c as (λb o h1 h2 h3 q=>he b o h3 (yY b o h1 h2 h3 q)) (he S _ o4 hS) (by lia) (hG.keep λb o hb q=>he b o (Zx (YJ Gy hb)) q) fO)
 | succ k ih =>
  intro i h tk c acc as hk hi cn hit hl yY hS fO lK hG hz;have aT:i<items.size:=by lia
  refine Zt ac2 ?_;rw[Zi aaN _];show YL _ A.in1 (aa9 (.ref e) >>= _) _ _ _;refine Yo (Rp (s:={ s with heap:=h,toks:=tk }) (A:=A.in1) cn (Yv hS) hit hl (Zb aT) bF λh' cz kz hT hsz gU=>?_);have kG:=gU S _ oZ o4 hS;have GA:acc.size=i:=by
   have:acc.toList.length=i:=by rw[fO,Yq,lK]
   simpa using this
  show YL _ A.in1 (ade S (·.push (.ref h.objs.size)) >>= _) _ _ _;refine Yo ?_;have GB:lo<=h.objs.size:=hz;have sb:∀ b o,b≠S->h'.get? b=some o->(h'.update S (ZM (·.push (.ref h.objs.size)))).get? b=some o:=λb o hb q=>(YM _ _ (Zj hb)).trans q;refine aaw kG rfl (Yu ⟨aam aaN _,ih (i+1) _ (tk+1) _ (acc.push (.ref h.objs.size)) (as++[h.objs.size]) (by lia) aT
   (cz.keep sb (Zj oZ)) (kz.at λo q=>sb it o (Zj o4) q) ((hl.at λo q=>gU l o hle lF q).at λo q=>sb l o vd q)
   (λb o h1 h2 h3 q=>sb b o h1 (gU b o h2 h3 (yY b o h1 h2 h3 q))) (Ze _ kG rfl) (by rw[afi,fO];simp) (by rw[YO,lK];rfl) ?_ ?_⟩)
   (by rw[GA];lia) (by show (acc.push _).size<=YR+1;rw[Array.size_push,GA];lia)
  .have up:∀ b o,lo<=b->h.get? b=some o->(h'.update S (ZM (·.push (.ref h.objs.size)))).get? b=some o:=λb o hb q =>
    sb b o (Zx (YJ Gx hb)) (gU b o (Zx (YJ Rt hb)) (Zx (YJ Gy hb)) q)
   have G':=hG.keep up;refine⟨?_,?_,?_⟩
   .refine aei.mpr ⟨hG.rise,List.pairwise_singleton _ _,λa ha b hb=>?_⟩;rw[Zc.mp hb];exact hG.there ha
   .intro a ha;rcases Y3.mp ha with ha|ha
    .exact hG.above a ha
    .rw[Zc.mp ha];exact GB
   .intro j a hj;by_cases hjl:j<as.length
    .rw[Zl hjl] at hj;exact G'.pairs j a hj
    .rw[Zz (by lia)] at hj;have Ru:j-as.length=0:=by
      rcases Nat.eq_zero_or_pos (j-as.length) with z|z
      .exact z
      .rw[ZV (by rw[YY];exact z)] at hj;cases hj
     rw[Ru] at hj;cases hj;obtain rfl:j=i:=by lia
     exact⟨_,_,Zb aT,sb _ _ (Zx (YJ Gx GB)) hT⟩
  .rw[(ZA ..).1];show lo<=h'.objs.size;rw[hsz];exact Nat.le_succ_of_le hz
end
theorem Rv:ae8 (.type "enumerate") "__len__" = pure none:=by rw[acE,abf];kernel_rfl
theorem Rw:ae8 (.type "enumerate") "__length_hint__" = pure none:=by rw[acE,abf];kernel_rfl
section
theorem Rx(hh:A.handled=none)(old:Yy)(he:IsEnum s.heap e it 0 old)(hit:s.heap.IsListIter it l 0)(hl:s.heap.IsList l items)(bF:e≠it)(hle:l≠e)(lF:l≠it)(S:YC)(oZ:S≠e)(o4:S≠it)(vd:l≠S)(res:Yy)(c:Nat)(hS:s.heap.get? S=some { cls:=.type "list",data:=.seq #[] c })(hn:items.size<=YR)(hR:∀ g tk acc c' as,(∀ b o,b≠S->b≠e->b≠it->s.heap.get? b=some o->g.get? b=some o)->g.get? S=some { cls:=.type "list",dict:=none,data:=.seq acc c',slots:=#[] }->as.length=items.size->kJ items s.heap.objs.size g as ->
 acc.toList=as.map YU->R (.ok (.ret res)) { s with heap:=g,toks:=tk }) :
 YL (model prog w) A.in1 (aaz (.ref S) (.ref e) res)
  (λf u=>match f with|.done f=>R (.ok f) u|.again k=>k.quiet=true/\abb (model prog w) A k R u) (λe u=>R (.error e) u) s:=by
 have h1:adk (.ref S) (.ref e)=false:=by simp[adk,oZ]
 have hT:s.TypeIs (.ref e) "enumerate" := ⟨_,he,rfl⟩;unfold aaz;refine Yo (wpAny_typeOf hT ?_);rw[if_neg (by rw[h1];decide)];refine Yo (adf he ?_);refine Yo (ZL ?_);unfold abg;refine Yo (acC hT Rv ?_);show YL _ A.in1 (specialOf (YU e) (ZQ "__length_hint__") >>= _) _ _ _;refine Yo (acC hT Rw ?_);refine Yu ?_;show YL _ A.in1 (rule "list.extend.makes-room" >>= λ_=>agp (.ref S) >>= λ_=>again (.builtin "list.extend.loop" ⟨[.ref S,.ref e,res],[]⟩)) _ _ _;refine Yo (abJ ?_);refine Yo ?_;show YL _ A.in1 (ade S (·.push .none) >>= λ_=>ade S (·.pop)) _ _ _;refine Yo (aaw hS rfl ?_);have GC:=Ze (ZM (·.push Value.none)) hS rfl;refine aaw GC rfl ?_;have Ry:=Ze (ZM (·.pop)) GC rfl;have kK:∀ b o,b≠S->s.heap.get? b=some o->((s.heap.update S (ZM (·.push Value.none))).update S (ZM (·.pop))).get? b=some o :=
  λb o hb e=>(YM _ _ (Zj hb)).trans ((YM _ _ (Zj hb)).trans e)
 have sz:((s.heap.update S (ZM (·.push Value.none))).update S (ZM (·.pop))).objs.size=s.heap.objs.size:=by rw[(ZA ..).1,(ZA ..).1]
 refine Yu ⟨aam aaN _,Rr (s:=s) (l:=l) (it:=it) (lo:=s.heap.objs.size) (items:=items) (h₁:=s.heap) hh bF oZ o4 vd hle lF (Yv hS) (Yv he) (let ⟨_,q,_⟩:=hit;Yv q) hn res hR
  items.size 0 _ s.toks _ #[] [] rfl (YS _) (.inl ⟨old,kK _ _ (Zj oZ) he⟩) (hit.at λo q=>kK it o (Zj o4) q) (hl.at λo q=>kK l o vd q) (λb o h1 _ _ q=>kK b o h1 q) Ry rfl rfl ⟨.nil,(λ_ h=>nomatch h),λj a h=>by cases h⟩ (by rw[sz];exact Yz _)⟩
theorem Rz(hh:A.handled=none)(old:Yy)(he:IsEnum s.heap e it 0 old)(hit:s.heap.IsListIter it l 0)(hl:s.heap.IsList l items)(bF:e≠it)(hle:l≠e)(lF:l≠it)(hn:items.size<=YR)(hQ:∀ g tk acc c as,(∀ b o,b≠e->b≠it->s.heap.get? b=some o->g.get? b=some o)->g.get? s.heap.objs.size=some { cls:=.type "list",dict:=none,data:=.seq acc c,slots:=#[] }->as.length=items.size->kJ items (s.heap.objs.size+1) g as ->
 acc.toList=as.map YU->Q (.ref s.heap.objs.size) { s with heap:=g,toks:=tk }) :
 YL (model prog w) A (call (.type "list") [.ref e]) Q E s:=by
 have le:e<s.heap.objs.size:=Yv he;have li:it<s.heap.objs.size:=let ⟨_,q,_⟩:=hit;Yv q;have ll:l<s.heap.objs.size:=let ⟨_,q,_⟩:=hl;Yv q;refine callType_codes (Q₁:=λy s₁=>y = .ref s.heap.objs.size/\s₁ = { s with heap:=s.heap.push { cls:=.type "list",data:=.seq #[] } }) PySem.F.called_list (PySem.F.typeCall_list_1 _) PySem.F.entry_list_init (code_list_new _ ⟨rfl,rfl⟩) λy s₁ h₁=>?_;obtain⟨rfl,rfl⟩:=h₁;have e0:(s.heap.push { cls:=.type "list",data:=.seq #[] }).get? s.heap.objs.size=some { cls:=.type "list",data:=.seq #[] }:=YA _ rfl;refine⟨⟨_,e0,rfl⟩,PySem.F.args_list_init_2 _ _,?_⟩;show YL _ A.in1.in1 (do let z <- adR (.ref s.heap.objs.size);ago (.ref s.heap.objs.size) (λ_=>#[]);letGo z.toList.reverse;aaz (.ref s.heap.objs.size) (.ref e) .none) _ _ _;refine Yo ?_;unfold adR;refine Yo (abm e0 rfl (Yu ?_));refine Yo (m:=ade s.heap.objs.size (λ_=>#[])) (aaw e0 rfl ?_);have e1:=Ze (ZM (λ_=>(#[]:Array Yy))) e0 rfl;have kK:∀ b o,b≠s.heap.objs.size->s.heap.get? b=some o->((s.heap.push { cls:=.type "list",data:=.seq #[] }).update s.heap.objs.size (ZM (λ_=>(#[]:Array Yy)))).get? b=some o :=
  λb o hb e=>(YM _ _ (Zj hb)).trans (Yt _ e)
 have sz:((s.heap.push { cls:=.type "list",data:=.seq #[] }).update s.heap.objs.size (ZM (λ_=>(#[]:Array Yy)))).objs.size=s.heap.objs.size+1:=by rw[(ZA ..).1,size_push']
 refine Yo (abD ?_);exact Rx (A:=A.in1) hh old (kK e _ (YH le) he) (hit.at λo q=>kK it o (YH li) q) (hl.at λo q=>kK l o (YH ll) q) bF hle lF s.heap.objs.size (Zx le) (Zx li) (YH ll) .none _ e1 hn
  λg tk acc c as hk hS lK hG fO=>⟨rfl,hQ g tk acc c as (λb o h1 h2 q=>hk b o (YH (Yv q)) h1 h2 (kK b o (YH (Yv q)) q)) hS lK (by rw[<- sz];exact hG) fO⟩
theorem Inv.GD(I:Inv X pins σ H s)(hf:cS X pins H T)(new:br X.prog X.w (upd H T o) s.heap T o):Inv X pins σ (upd H T o) s:=by
 have ku:∀ b u,H b=some u->b≠T:=λb u e=>ir e hf.1;have up:∀ b u,H b=some u->upd H T o b=some u:=λb u e=>by rw[aD (ku b u e)];exact e
 refine I.step (g':=s.gens) (t':=s.toks) (d':=s.drawn) (h':=s.heap) (ch:=[T]) (λb hb=>?_) (λb o _ _ hc e _=>e) (λb o _ _ hc e _=>⟨o.slots,e⟩) (λb u hc e n=>by rw[aD (by simpa using hc)];exact n)
  (λb o hc e=>⟨o,e⟩) (λb xs e=>up b _ e) (λb _ _ e=>up b _ e) (λb ps e=>⟨#[],by rw[up b _ e];simp⟩) (λm hm=>hm) (λb u e=>?_) I.bare
 .obtain rfl:b=T:=by simpa using hb
  obtain⟨_,d1,d2,d3,d4,d5⟩:=hf;exact⟨d3,d1,d4,d5⟩
 .by_cases hb:b=T
  .subst hb;rw[ax] at e;cases e;exact new
  .rw[aD hb] at e;exact (I.ay b u e).fG (λc v hc q=>q) (λc q=>up c _ q) λc xs q=>up c _ q
theorem RA(h:cS X pins H b)(hb:b≠T):cS X pins (upd H T o) b:=⟨by rw[aD hb];exact h.1,h.2⟩
theorem GF:∀ (as:List YC) (xs:List V) (us:List Yy) (i:Nat) (H:Hp),Inv X pins σ H s->Vals xs us->as.length=xs.length->as.Pairwise (· < ·)->(∀ a∈as,cS X pins H a) ->
 (∀ j a u,as[j]?=some a->us[j]?=some u->∃ t,s.heap.get? a=some { cls:=.type "tuple",data:=.seq #[.int ((i+j:Nat):Int) t,u] }) ->
 ∃ H',aj H H'/\Inv X pins σ H' s/\(∀ b,b∉as->H' b=H b)/\∀ j a x,as[j]?=some a->xs[j]?=some x->H' a=some (.tup [.int ((i+j:Nat):Int),x])
 | [],[],us,i,H,I,r,hl,hp,hf,ht=>⟨H,λ_ _ e=>e,I,λ_ _=>rfl,λj a x h=>by cases h⟩
 | [],_::_,us,i,H,I,r,hl,hp,hf,ht=>by cases hl
 | _::_,[],us,i,H,I,r,hl,hp,hf,ht=>by cases hl
 | a::as,x::xs,us,i,H,I,r,hl,hp,hf,ht=>by
  cases us with
  | nil=>cases r
  | cons u us =>
  cases r with
  | cons r rs =>
  obtain⟨aT,c6⟩:=aeV.mp hp;have na:∀ b∈as,b≠a:=λb hb=>Zx (aT b hb);obtain⟨t,h0⟩:=ht 0 a u rfl rfl;have I1:=Inv.GD (o:=.tup [.int ((i+0:Nat):Int),x]) I (hf a (.head _)) ⟨xP,[.int ((i+0:Nat):Int) t,u],.cons ⟨_,rfl⟩ (.cons r .nil),⟨_,h0,rfl,_,rfl⟩⟩;obtain⟨H',s1,I2,k1,k2⟩:=GF as xs us (i+1) _ I1 rs (by simpa using hl) c6 (λb hb=>RA (hf b (.tail _ hb)) (na b hb)) λj b v e1 e2=>by obtain⟨t',q⟩:=ht (j+1) b v e1 e2;exact⟨t',by rw[show i+1+j=i+(j+1) by lia];exact q⟩
  refine⟨H',λb v e=>s1 b v (by rw[aD (ir e (hf a (.head _)).1)];exact e),I2,λb hb=>?_,λj b y e1 e2=>?_⟩
  .rw[k1 b (λz=>hb (.tail _ z)),aD (λz=>hb (by rw[z];exact .head _))]
  .cases j with
   | zero =>
    cases e1;cases e2;rw[k1 a (λz=>na a z rfl),ax]
   | succ j =>
    have:=k2 j b y e1 e2;rw[show i+1+j=i+(j+1) by lia] at this;exact this
end
theorem GG:∀ as:List YC,Vals (as.map V.ref) (as.map YU)
 | []=>.nil
 | _::as=>.cons rfl (GG as)
def GH(K:Yp)(ta:TA):TE:=λσ H Q=>ta σ H λvs H1=>∃ a xs,vs=[.ref a]/\ai K H1 a xs/\∀ l ys H',aj H1 H'->H1 l=none->H' l=some (.lst ys)->ys.length=xs.length ->
 (∀ j y x,ys[j]?=some y->xs[j]?=some x->∃ p,y = .ref p/\H1 p=none/\H' p=some (.tup [.int (j:Nat),x]))->Q (.ref l) H'
theorem RB(hc:X.calm=true)(hg:Gl X "list")(hm:X.mg "list" = none)(qW:Gl X "enumerate")(lG:X.mg "enumerate" = none)(ha:PA X [e] ta)(hs:YQ [.Call (.Name "enumerate" p2) [e] [] fR] X.env=[(false,eval (.Call (.Name "enumerate" p2) [e] [] fR) X.env)]:=by rfl)(cA:YQ [e] X.env=[(false,eval e X.env)]:=by rfl) :
 PE X (.Call (.Name "list" p) [.Call (.Name "enumerate" p2) [e] [] fR] [] pos) (GH X.K ta):=by
 intro pins s σ H Q I h;refine agG (eX I hg hm nZ (Y7 ?_ hs rfl));rw[hs];show YL _ _ (spliced ((false,eval (.Call (.Name "enumerate" p2) [e] [] fR) X.env)::aap pos [])) _ _ s;refine aae (agG (eX I qW lG Dh (Y7 (aB (ha fR pins s σ H _ I h) λus s1 zq=>?_) cA rfl)));obtain⟨vs,H1,I1,r1,q1⟩:=zq;obtain⟨a,xs,rfl,hq,q⟩:=q1;obtain⟨u,rfl,ru⟩:=vals1 r1;cases ru;obtain⟨ao,rv,pl,hz⟩:=I1.list hq;refine aev pl.isList λh' he hit hsz hk=>?_;refine aas ?_;have la:a<s1.heap.objs.size:=let ⟨_,e,_⟩:=pl.isList;Yv e;refine Rz (s:={ s1 with heap:=h' }) (l:=a) (items:=ao.toArray) (I1.ok.hd hc) .none he hit (pl.isList.at λo e=>hk a o e) (afv _) (YH (abj la)) (YH la) (by rw[YD,<- rv.length];exact hz) λg tk acc c as hJ hD lK hG fO=>?_;have up:∀ b o,s1.heap.get? b=some o->g.get? b=some o:=λb o e=>hJ b o (YH (abj (Yv e))) (YH (Yv e)) (hk b o e);have I2:Inv X pins σ H1 { s1 with heap:=g,toks:=tk }:=I1.kept (t':=tk) up;have yZ:∀ b∈as,s1.heap.objs.size<=b:=λb hb=>by have:=hG.above b hb;have e:({ s1 with heap:=h' }:YB).heap.objs.size=s1.heap.objs.size+2:=hsz;walk_at "o"
 obtain⟨H',s2,I3,k1,k2⟩:=GF as xs ao 0 H1 I2 rv (by rw[lK,YD];exact rv.length.symm) hG.rise (λb hb=>I1.gJ (yZ b hb) (I1.ay.fresh (yZ b hb))) λj b v e1 e2=>by
  obtain⟨t,x,e3,e4⟩:=hG.pairs j b e1;have:x=v:=by simpa [e2] using e3.symm
  subst this;exact⟨t,by rw[agD];exact e4⟩
 have hl:s1.heap.objs.size<=h'.objs.size:=by rw[hsz];exact Nat.le_add_right _ _
 have nl:h'.objs.size∉as:=λz=>absurd (hG.above _ z) (Nat.not_succ_le_self _);have f0:=I1.ay.fresh hl;have GI:as.length=xs.length:=by rw[lK,YD];exact rv.length.symm
 refine⟨.ref h'.objs.size,upd H' h'.objs.size (.lst (as.map V.ref)),Inv.GD I3 (I1.gJ hl (by rw[k1 _ nl];exact f0)) ⟨by rw[Yq,GI];exact hz,acc.toList,c,?_,by rw[aeh];exact hD⟩,rfl,q _ (as.map V.ref) _ (λb v e=>?_) f0 (ax ..) (by rw[Yq,GI]) λj y x e1 e2=>?_⟩
 .rw[fO];exact GG as
 .rw[aD (ir e f0)];exact s2 b v e
 .rw[YG] at e1;obtain⟨b,hb,rfl⟩:=Y6.mp e1;have hm:=YF hb;refine⟨b,rfl,I1.ay.fresh (yZ b hm),?_⟩;rw[aD (λz=>nl (by rw[<- z];exact hm))];have:=k2 j b x hb e2;rw[agD] at this;exact this
def lL:L2.St->Nat->(V->Prop)->Prop
 | [],_,_=>False
 | x::_,0,Q=>match x with|some v=>Q v|none=>False
 | _::σ,n+1,Q=>lL σ n Q
def b5(x:V)(Q:Int->Prop):Prop:=match x with|.int i=>Q i|_=>False
def mY(x:V)(Q:Bool->Prop):Prop:=match x with|.bl i=>Q i|_=>False
def rj(x:V)(Q:YC->Prop):Prop:=match x with|.ref i=>Q i|_=>False
def RC(xs:List V)(Q:V->Prop):Prop:=match xs with|[x]=>Q x|_=>False
def RD(xs:List V)(Q:V->V->Prop):Prop:=match xs with|[x,y]=>Q x y|_=>False
def lM(x:V)(Q:Bool->Prop):Prop:=match x with|.non=>Q true|_=>Q false
def jQ(x:V)(Q:Bool->Prop):Prop:=match x with|.non=>Q false|_=>Q true
section
theorem RE:lL (some v::σ) 0 Q=Q v:=rfl
theorem RF:lL (o::σ) (n+1) Q=lL σ n Q:=rfl
theorem RG:b5 (.int i) QI=QI i:=rfl
theorem RH:mY (.bl b) QB=QB b:=rfl
theorem RI:rj (.ref a) QR=QR a:=rfl
theorem RJ:RC [x] Q=Q x:=rfl
theorem RK:RD [x,y] Q2=Q2 x y:=rfl
theorem RL:lM .non QB=QB true:=rfl
theorem RM:lM (.int i) QB=QB false:=rfl
theorem RN:lM (.bl b) QB=QB false:=rfl
theorem RO:lM (.ref a) QB=QB false:=rfl
theorem RP:jQ .non QB=QB false:=rfl
theorem RQ:jQ (.int i) QB=QB true:=rfl
theorem RS:jQ (.bl b) QB=QB true:=rfl
theorem RT:jQ (.ref a) QB=QB true:=rfl
theorem RU:jQ (.str s) QB=QB true:=rfl
theorem RV:lM (.str s) QB=QB false:=rfl
theorem lL.ex:∀ {σ:L2.St} {n:Nat},lL σ n Q->∃ v,σ[n]?=some (some v)/\Q v
 | [],_,h=>h.elim
 | some v::_,0,h=>⟨v,rfl,h⟩
 | none::_,0,h=>h.elim
 | _::σ,n+1,h=>lL.ex (σ:=σ) (n:=n) h
theorem b5.ex(h:b5 x QI):∃ i,x = .int i/\QI i:=by cases x<;>first|exact⟨_,rfl,h⟩|exact h.elim
theorem mY.ex(h:mY x QB):∃ i,x = .bl i/\QB i:=by cases x<;>first|exact⟨_,rfl,h⟩|exact h.elim
theorem rj.ex(h:rj x QR):∃ i,x = .ref i/\QR i:=by cases x<;>first|exact⟨_,rfl,h⟩|exact h.elim
theorem jQ.ex(h:jQ x QB):QB (!decide (x = .non)):=by cases x<;>exact h
theorem lM.ex(h:lM x QB):QB (decide (x = .non)):=by cases x<;>exact h
end
section
variable{X:Cx}{e a b c:acg}{pos:Pos}{ta tb tc:TE}{op gM:CmpOp}
theorem GJ(h:Q (qF x)):jQ x Q:=by cases x<;>exact h
theorem y0{c:Prop}[Decidable c]{Q:Bool->Prop}(h:Q (decide c)):if c then Q true else Q false:=by
 by_cases z:c
 .rw[decide_eq_true z] at h;exact (show _=_ from if_pos z).mpr h
 .rw[decide_eq_false z] at h;exact (show _=_ from if_neg z).mpr h
def RW(t:TE):TE:=λσ H Q=>∃ Q':VK,(∀ v H1,Q' v H1->Q v H1)/\t σ H Q'
theorem d9(h:PE X e ta):PE X e (RW ta):=λpins s σ H Q I ⟨Q',k,q⟩=>aB (h pins s σ H Q' I q) λ_ _ ⟨x,H1,I1,r1,q1⟩=>⟨x,H1,I1,r1,k _ _ q1⟩
theorem rk(h:PE X e ta)(k:∀ σ H Q,t' σ H Q->ta σ H Q):PE X e t':=λpins s σ H Q I q=>h pins s σ H Q I (k σ H Q q)
theorem mZ(h:PT X e t)(k:∀ σ H Q,t' σ H Q->t σ H Q):PT X e t':=λpins s σ H Q I q=>h pins s σ H Q I (k σ H Q q)
theorem y9(h:aX X f r)(k:∀ x y H Q,r' x y H Q->r x y H Q):aX X f r':=λpins s σ H x y v u Q I rx ry q=>h pins s σ H x y v u Q I rx ry (k _ _ _ _ q)
def GK(i:Nat):TE:=λσ H Q=>lL σ i λv=>Q v H
theorem aa(i:Nat)(hN:X.N[i]?=some x:=by rfl)(hv:tM X.env.scope x:=by first|exact aca rfl|exact afn (aca rfl)|exact afn (afn rfl))(hd:(x == ("__debug__" : Str))=false:=by decide)(fq:(x == ("__classdict__" : Str))=false:=by decide):PE X (.Name x pos) (GK i):=rk (pv i hN hv hd fq) λ_ _ _ h=>h.ex
def rm(C:Int->Int->Prop)(g:Int->Int->V):R2:=λx y H Q=>b5 x λi=>b5 y λj=>C i j/\Q (g i j) H
def ve(g:Int->Int->V):R2:=λx y H Q=>b5 x λi=>b5 y λj=>Q (g i j) H
def za(g:Int->V):V->Hp->VK->Prop:=λx H Q=>b5 x λi=>Q (g i) H
def zb(p:Int->Int->Prop)[∀ i j,Decidable (p i j)]:R2:=λx y H Q=>b5 x λi=>b5 y λj=>if p i j then Q (.bl true) H else Q (.bl false) H
theorem zc(h:aX X f (rI C g)):aX X f (rm C g):=y9 h λx y H Q q=>by obtain⟨i,rfl,q1⟩:=b5.ex q;obtain⟨j,rfl,q5⟩:=b5.ex q1;exact⟨i,j,rfl,rfl,q5⟩
theorem iV(h:aX X f (fI g)):aX X f (ve g):=y9 h λx y H Q q=>by obtain⟨i,rfl,q1⟩:=b5.ex q;obtain⟨j,rfl,q5⟩:=b5.ex q1;exact⟨i,j,rfl,rfl,q5⟩
theorem zd[∀ i j,Decidable (p i j)](h:aX X f (fI λi j=>.bl (decide (p i j)))):aX X f (zb p):=y9 h λx y H Q q=>by
 obtain⟨i,rfl,q1⟩:=b5.ex q;obtain⟨j,rfl,q5⟩:=b5.ex q1;clear q q1;refine⟨i,j,rfl,rfl,?_⟩;by_cases z:p i j
 .rw[if_pos z] at q5;show Q (.bl (decide (p i j))) H;rw[decide_eq_true z];exact q5
 .rw[if_neg z] at q5;show Q (.bl (decide (p i j))) H;rw[decide_eq_false z];exact q5
theorem RX(h:nQ X f (rU g)):nQ X f (za g):=λpins s σ H x v Q I rx q=>h pins s σ H x v Q I rx q.ex
theorem bp:aX X (abr .Add) (ve λi j=>.int (i+j)):=iV K0
theorem da:aX X (abr .Sub) (ve λi j=>.int (i-j)):=iV K1
theorem o5:aX X (abr .Mod) (rm (λ_ j=>0<j) λi j=>.int (i % j)):=zc K2
theorem kL:aX X (abr .Mult) (rm nY λi j=>.int (i * j)):=zc Mg
theorem GL:aX X (abr .Mult) (rm oy λi j=>.int (i * j)):=zc Oo
theorem hU:nQ X (unaryOp .USub) (za λi=>.int (-i)):=RX K4
def GN(t:TE):TT:=λσ H Q=>t σ H λx H'=>mY x λk=>Q k H'
theorem bQ(h:PE X e ta)(he:∀ whole,agr e X.env whole=(do let v <- whole;afB e.pos;holding [v] (truthy v)):=by intro _;rfl):PT X e (GN ta):=mZ (KI (d9 h) he) λσ H Q q=>⟨_,λ_ _ h=>h.ex,q⟩
def o6(p:Int->Int->Prop)[∀ i j,Decidable (p i j)](ta tb:TE):TT:=λσ H Q=>ta σ H λx H1=>tb σ H1 λy H2=>b5 x λi=>b5 y λj=>if p i j then Q true H2 else Q false H2
theorem GO{p:Int->Int->Prop}[∀ i j,Decidable (p i j)]{x y:V}{H:Hp}{Q:Bool->Hp->Prop}(q:b5 x λi=>b5 y λj=>if p i j then Q true H else Q false H):zb p x y H (λz H'=>∃ k,z = .bl k/\Q k H'):=by
 obtain⟨i,rfl,q1⟩:=b5.ex q;obtain⟨j,rfl,q5⟩:=b5.ex q1;clear q q1;by_cases z:p i j
 .rw[if_pos z] at q5;exact (show _=_ from if_pos z).mpr ⟨_,rfl,q5⟩
 .rw[if_neg z] at q5;exact (show _=_ from if_neg z).mpr ⟨_,rfl,q5⟩
theorem vf[∀ i j,Decidable (p i j)](ho:aX X (Zw op) (fI λi j=>.bl (decide (p i j))))(ha:PE X a ta)(hb:PE X b tb)(hm:aaG op b=false):PT X (.Compare a [op] [b] pos) (o6 p ta tb) :=
 mZ (jn (zd ho) (d9 ha) (d9 hb) hm) λσ H Q q=>⟨_,λx H1 q1=>⟨_,λy H2 q2=>GO q2,q1⟩,q⟩
theorem lN(ha:PE X a ta)(hb:PE X b tb):PT X (.Compare a [.Lt] [b] pos) (o6 (λi j=>i<j) ta tb):=vf wU ha hb (cB _)
theorem vg(ha:PE X a ta)(hb:PE X b tb):PT X (.Compare a [.LtE] [b] pos) (o6 (λi j=>i<=j) ta tb):=vf eF ha hb (cB _)
theorem vh(ha:PE X a ta)(hb:PE X b tb):PT X (.Compare a [.Gt] [b] pos) (o6 (λi j=>j<i) ta tb):=vf qe ha hb (cB _)
theorem kM(ha:PE X a ta)(hb:PE X b tb):PT X (.Compare a [.GtE] [b] pos) (o6 (λi j=>j<=i) ta tb):=vf K6 ha hb (cB _)
def eqT(x y:V)(Q:Bool->Prop):Prop:=match x with
 | .int i=>(match y with|.int j=>if i=j then Q true else Q false|.non=>Q false|.str _=>Q false|_=>False)
 | .str i=>(match y with|.str j=>if i=j then Q true else Q false|.non=>Q false|.int _=>Q false|_=>False)
 | .bl i=>(match y with|.bl j=>if i=j then Q true else Q false|.non=>Q false|_=>False)
 | .non=>(match y with|.non=>Q true|.int _=>Q false|.bl _=>Q false|.str _=>Q false|_=>False)
 | _=>False
def neT(x y:V)(Q:Bool->Prop):Prop:=match x with
 | .int i=>(match y with|.int j=>if ¬ i=j then Q true else Q false|.non=>Q true|.str _=>Q true|_=>False)
 | .str i=>(match y with|.str j=>if ¬ i=j then Q true else Q false|.non=>Q true|.int _=>Q true|_=>False)
 | .bl i=>(match y with|.bl j=>if ¬ i=j then Q true else Q false|.non=>Q true|_=>False)
 | .non=>(match y with|.non=>Q false|.int _=>Q true|.bl _=>Q true|.str _=>Q true|_=>False)
 | _=>False
section
theorem RY:eqT (.int i) (.int j) Q=if i=j then Q true else Q false:=rfl
theorem GP:eqT (.str s) (.str t) Q=if s=t then Q true else Q false:=rfl
theorem RZ:eqT (.bl b') (.bl b1) Q=if b'=b1 then Q true else Q false:=rfl
theorem R0:eqT .non .non Q=Q true:=rfl
theorem R1:eqT .non (.int j) Q=Q false:=rfl
theorem R4:eqT (.int i) .non Q=Q false:=rfl
theorem R5:eqT (.int i) (.str s) Q=Q false:=rfl
theorem R6:eqT .non (.str s) Q=Q false:=rfl
theorem R7:neT (.int i) (.int j) Q=if ¬ i=j then Q true else Q false:=rfl
theorem R8:neT (.str s) (.str t) Q=if ¬ s=t then Q true else Q false:=rfl
theorem R9:neT .non .non Q=Q false:=rfl
theorem Sa:neT .non (.int j) Q=Q true:=rfl
theorem Sb:neT (.int i) .non Q=Q true:=rfl
theorem GQ{c:Prop}[Decidable c]{Q:Bool->Prop}(q:if c then Q true else Q false):Q (decide c):=by
 by_cases z:c
 .rw[if_pos z] at q;rw[decide_eq_true z];exact q
 .rw[if_neg z] at q;rw[decide_eq_false z];exact q
theorem eqT.ex(h:eqT x y Q):ke x y=true/\Q (decide (x=y)):=by
 cases x<;>cases y<;>first
  | exact h.elim
  | exact⟨rfl,h⟩
  | (refine⟨rfl,?_⟩;have:=GQ h;simpa using this)
theorem neT.ex(h:neT x y Q):ke x y=true/\Q (!decide (x=y)):=by
 cases x<;>cases y<;>first
  | exact h.elim
  | exact⟨rfl,h⟩
  | (refine⟨rfl,?_⟩;have:=GQ h;simpa using this)
end
def GR(ta tb:TE):TT:=λσ H Q=>ta σ H λx H1=>tb σ H1 λy H2=>eqT x y λk=>Q k H2
def GS(ta tb:TE):TT:=λσ H Q=>ta σ H λx H1=>tb σ H1 λy H2=>neT x y λk=>Q k H2
theorem bW(ha:PE X a ta)(hb:PE X b tb):PT X (.Compare a [.Eq] [b] pos) (GR ta tb) :=
 mZ (jn nR (d9 ha) (d9 hb) (cB _)) λσ H Q q=>⟨_,λx H1 q1=>⟨_,λy H2 q2=>⟨(eqT.ex q2).1,_,rfl,(eqT.ex q2).2⟩,q1⟩,q⟩
theorem kN(ha:PE X a ta)(hb:PE X b tb):PT X (.Compare a [.NotEq] [b] pos) (GS ta tb) :=
 mZ (jn K5 (d9 ha) (d9 hb) (cB _)) λσ H Q q=>⟨_,λx H1 q1=>⟨_,λy H2 q2=>⟨(neT.ex q2).1,_,rfl,(neT.ex q2).2⟩,q1⟩,q⟩
def GU(ta:TE):TT:=λσ H Q=>ta σ H λx H1=>lM x λk=>Q k H1
def GV(ta:TE):TT:=λσ H Q=>ta σ H λx H1=>jQ x λk=>Q k H1
theorem dG(ha:PE X a ta):PT X (.Compare a [.Is] [.Constant .none j pos'] pos) (GU ta):=mZ (tQ (pV (d9 ha))) λσ H Q q=>⟨_,λx H1 q1=>⟨_,rfl,q1.ex⟩,q⟩
theorem fT(ha:PE X a ta):PT X (.Compare a [.IsNot] [.Constant .none j pos'] pos) (GV ta):=mZ (tQ (pW (d9 ha))) λσ H Q q=>⟨_,λx H1 q1=>⟨_,rfl,jQ.ex q1⟩,q⟩
def GW(p q:Int->Int->Prop)[∀ i j,Decidable (p i j)][∀ i j,Decidable (q i j)](ta tb tc:TE):TT:=λσ H Q=>ta σ H λx H1=>tb σ H1 λy H2=>b5 x λi=>b5 y λj=>if p i j then (tc σ H2 λz H3=>b5 z λk=>if q j k then Q true H3 else Q false H3) else Q false H2
theorem ze[∀ i j,Decidable (p i j)][∀ i j,Decidable (q i j)](ho:aX X (Zw op) (fI λi j=>.bl (decide (p i j))))(b7:aX X (Zw gM) (fI λi j=>.bl (decide (q i j))))(ha:PE X a ta)(hb:PE X b tb)(hc:PE X c tc)(hm:afC [op,gM] [b,c]=false:=by with_unfolding_all rfl):PT X (.Compare a [op,gM] [b,c] pos) (GW p q ta tb tc) :=
 mZ (K7 (zd ho) (zd b7) (d9 ha) (d9 hb) (d9 hc) hm) λσ H Q q=>⟨_,λx H1 q1=>⟨_,λy H2 q2=>by
  obtain⟨i,rfl,q3⟩:=b5.ex q2;obtain⟨j,rfl,q5⟩:=b5.ex q3;clear q2 q3;by_cases z:p i j
  .rw[if_pos z] at q5;exact (show _=_ from if_pos z).mpr ⟨_,rfl,_,λw' H4 q4=>by
    obtain⟨k,rfl,_⟩:=b5.ex q4;exact GO (x:=.int j) q4,q5⟩
  .rw[if_neg z] at q5;exact (show _=_ from if_neg z).mpr ⟨_,rfl,⟨_,rfl,q5⟩⟩,q1⟩,q⟩
variable{rest:List acg}
def GX(ta tb:TE):TE:=λσ H Q=>ta σ H λx H1=>mY x λc=>if c=true then tb σ H1 Q else Q (.bl false) H1
def GY(ta tb:TE):TE:=λσ H Q=>ta σ H λx H1=>mY x λc=>if c=true then Q (.bl true) H1 else tb σ H1 Q
def GZ(ta:TE):TE:=λσ H Q=>ta σ H λx H1=>mY x λc=>Q (.bl (!c)) H1
theorem eR(ha:PE X a ta)(hb:PE X (.BoolOp .And (b::rest) pos) tb):PE X (.BoolOp .And (a::b::rest) pos) (GX ta tb):=rk (KJ (d9 ha) hb) λσ H Q q=>⟨_,λx H1 q1=>q1.ex,q⟩
theorem G0(ha:PE X a ta)(hb:PE X (.BoolOp .Or (b::rest) pos) tb):PE X (.BoolOp .Or (a::b::rest) pos) (GY ta tb):=rk (KL (d9 ha) hb) λσ H Q q=>⟨_,λx H1 q1=>q1.ex,q⟩
theorem zf(ha:PE X a ta):PE X (.UnaryOp .Not a pos) (GZ ta):=rk (KN (d9 ha)) λσ H Q q=>⟨_,λx H1 q1=>q1.ex,q⟩
def G2(K:Yp)(ta:TE)(f:Str):TE:=λσ H Q=>ta σ H λx H1=>rj x λa=>∃ C dx fs,H1 a=some (.ins C dx fs)/\dj K C/\cT K C f/\∃ v,fs.lookup f=some v/\Q v H1
theorem ck{f:Str}{K:Yp}(hK:X.K=K)(he:PE X e ta)(hb:abN e f X.env (eval e X.env)=eval e X.env):PE X (.Attribute e f pos) (G2 K ta f):=by
 subst hK;exact rk (Ln (d9 he) hb) λσ H Q q=>⟨_,λx H1 q1=>by
  obtain⟨a,rfl,C,dx,fs,h1,h2,h3,v,h4,q2⟩:=q1.ex;exact⟨a,C,dx,fs,v,rfl,h1,h2,h3,h4,q2⟩,q⟩
def G3(K:Yp)(ta tv:TE)(f:Str):TS:=λD σ H=>tv σ H λy H1=>ta σ H1 λx H2=>rj x λa=>∃ C dx fs,H2 a=some (.ins C dx fs)/\dj K C/\cT K C f/\fs.length<1000 /\
 D.nx σ (upd H2 a (.ins C dx (eI f y fs)))
theorem jR(ha:PE X o ta)(hv:PE X value tv)(hs:acr value (some (.Attribute o f pos')) pos.line X.env=pure false):PS X (.Assign [.Attribute o f pos'] value pos) (G3 X.K ta tv f):=λpins s σ H D I h =>
 Lo (d9 ha) (d9 hv) hs pins s σ H D I ⟨_,λy H1 q1=>⟨_,λx H2 q2=>by
  obtain⟨a,rfl,C,dx,fs,h⟩:=q2.ex;exact⟨a,C,dx,fs,rfl,h⟩,q1⟩,h⟩
end
section
variable{X:Cx}{K:Yp}{a b e:acg}{es:List acg}{ta tb:TE}{t:TA}{pos p:Pos}
theorem aq(ha:PE X a ta)(hb:PE X b tb)(hs:xf b:=by exact λ_ _=>rfl):PE X (.Subscript a b pos) (my (kf X.K) ta tb):=bb bc ha hb hs
theorem cI(ha:PE X a ta)(hb:PE X b tb)(h:X.K=K:=by rfl)(hs:xf b:=by exact λ_ _=>rfl):PE X (.Subscript a b pos) (my (kf K) ta tb):=bb (Nr h) ha hb hs
end
structure Fn(K:Yp)(mg:Str->Option Yy)(x:Str)(st:aaj)(ps:List Str) where
 a:YC
 fd:abu
 F:mF K x x st a fd
 m:mg x=some (.ref a)
 b:Binds K fd ps []
structure Fm(K:Yp)(x q:Str)(st:aaj)(ps:List Str) where
 a:YC
 fd:abu
 F:mF K x q st a fd
 b:Binds K fd ps []
section
theorem Sd{CX:gk}{k n:Nat}{ps:List Str}{sp:Sp}{x:Str}{st:aaj}(N:Fn X.K X.mg x st ps)(F:dX X.prog X.w X.K X.mg X.base CX k N.a N.fd ps sp)(hr:bN n X.A)(hx:Passes CX X E0)(ha:PA X (e::es) t)
 (hk:k<=n:=by decide) (hg:Gl X x:=by rfl) (fu:(x == ("__debug__" : Str))=false:=by decide) (he:YQ (e::es) X.env=(false,eval e X.env)::YQ es X.env:=by rfl) (dM:(aap pos (YQ es X.env)).any (·.1)=false:=by rfl) :
 PE X (.Call (.Name x p) (e::es) [] pos) (qh sp [] E0 t):=bC F (hr.mono hk) hg N.m N.F.kp N.b .nil hx ha fu he dM
end
theorem Se{α:Type}{n:Nat}{p:List α->Prop}(h:∀ u vs,vs.length=n->p (u::vs)):∀ us:List α,us.length=n+1->p us
 | u::vs,e=>h u vs (Nat.succ.inj e)
theorem Sf{α:Type}{p:List α->Prop}(h:p []):∀ us:List α,us.length=0->p us
 | [],_=>h
structure Sc(N ps:List Str)(st:aaj):Prop extends qj N ps (dk st) where
 b:∀ (x q:Str) (kV doc pm:Yy) (an:Option YC) (aV ct:Yy) (us:List Yy),us.length=ps.length->bindArgs (abc x q (nW st) (gN st) (dk st) .none kV doc pm an aV ct) ⟨us,[]⟩=pure (ps.zip us)
section
variable{P:Zo}{w:ZZ}{K:Yp}{mg:Str->Option Yy}{base h:aaW}{x q:Str}{st:aaj}{N ps:List Str}{k:Nat}{sp:Sp}{C:YC}
inductive Fb(K:Yp)(x q:Str)(st:aaj)(p:YC->Prop):Prop
 | mk {f:YC} {od an:Option YC} {sl:Array (Option Yy)} {oc kV dc pm cd ct:Yy} (_:p f) (_:K.lookup f=some ⟨oc,od,.func (abc x q (nW st) (gN st) (dk st) .none kV dc pm an cd ct),sl⟩) (_:acU K cd q=true) (_:aaa K (.ref f)=true)
def aO(K:Yp)(x:Str)(f:YC):Prop:=Y5 K YW x=some (some (.ref f))
def fi(K:Yp)(C:YC)(x:Str)(f:YC):Prop:=Y9 K (.ref C) x=some (some (.ref f))/\adW K (.ref f)=true
theorem Fb.fn(b:Fb K x x st (aO K x))(X:K.In h)(G:h.Ns YW mg)(S:Sc N ps st):Nonempty (Fn K mg x st ps) :=
 let ⟨a,l,c,k⟩:=b;⟨⟨_,_,nX l c k,ZS X G a,(nX l c k).binds (S.b x x)⟩⟩
theorem Fb.fm(b:Fb K x q st (fi K C x))(S:Sc N ps st):∃ F:Fm K x q st ps,fi K C x F.a :=
 let ⟨a,l,c,k⟩:=b;⟨⟨_,_,nX l c k,(nX l c k).binds (S.b x q)⟩,a⟩
theorem Fn.bt{y:Str}(F:Fn K mg x st [y])(S:Sc N [y] st)(s:YB)(v:Yy):ae6 s F.fd ⟨[v],[]⟩ [(y,v)]:=by obtain⟨oc,od,kV,doc,pm,an,aV,ct,jq,e,lk,fq⟩:=F.F.ex;rw[e];exact .of_eq (S.b _ _ _ _ _ _ _ _ [v] rfl)
abbrev Ok(P:Zo)(w:ZZ){K:Yp}{mg:Str->Option Yy}(base:aaW)(k:Nat){x:Str}{st:aaj}{ps:List Str}(F:Fn K mg x st ps)(sp:Sp):Prop:=dX P w K mg base (dm P w) k F.a F.fd ps sp
abbrev Om(P:Zo)(w:ZZ){K:Yp}(mg:Str->Option Yy)(base:aaW)(k:Nat){x q:Str}{st:aaj}{ps:List Str}(F:Fm K x q st ps)(sp:Sp):Prop:=dX P w K mg base (dm P w) k F.a F.fd ps sp
theorem bf{F:Fn K mg x st ps}(S:Sc N ps st)
 (gp:∀ (aV:Yy) (A:aac) (outer:List Env) (s:YB) (H:Hp) (vs:List V) (Q:VK) (E:XK),bN k (A.deeper (aaf x (dk st) s.heap.objs.size F.a aV))->sp vs H Q E ->
   ∃ t,aM (eJ (dm P w) P w K mg base N x (dk st) F.a aV A outer s H E).nO (gN st) t/\t { nx:=λ_ H'=>Q .non H',rt:=Q } (start N vs) H)
 (len:∀ vs H Q E,sp vs H Q E->vs.length=ps.length:=by intro _ _ _ _ h;cases h;subst_vars;rfl):Ok P w base (k+1) F sp:=okN F.F S.1 len gp
theorem ia{F:Fn K mg x st ps}(S:Sc N ps st)
 (gp:∀ (aV:Yy) (A:aac) (outer:List Env) (s:YB) (H:Hp) (vs:List V) (Q:VK) (E:XK),bN k (A.deeper (aaf x (dk st) s.heap.objs.size F.a aV))->sp vs H Q E ->
   ∃ t,aM (eJ (dm P w) P w K mg base N x (dk st) F.a aV A outer s H E) (gN st) t/\t { nx:=λ_ H'=>Q .non H',rt:=Q } (start N vs) H)
 (len:∀ vs H Q E,sp vs H Q E->vs.length=ps.length:=by intro _ _ _ _ h;cases h;subst_vars;rfl):Ok P w base (k+1) F sp:=iH F.F S.1 len gp
theorem o7{F:Fm K x q st ps}(S:Sc N ps st)
 (gp:∀ (aV:Yy) (A:aac) (outer:List Env) (s:YB) (H:Hp) (vs:List V) (Q:VK) (E:XK),bN k (A.deeper (aaf q (dk st) s.heap.objs.size F.a aV))->sp vs H Q E ->
   ∃ t,aM (eJ (dm P w) P w K mg base N q (dk st) F.a aV A outer s H E).nO (gN st) t/\t { nx:=λ_ H'=>Q .non H',rt:=Q } (start N vs) H)
 (len:∀ vs H Q E,sp vs H Q E->vs.length=ps.length:=by intro _ _ _ _ h;cases h;subst_vars;rfl):Om P w mg base (k+1) F sp:=okN F.F S.1 len gp
theorem m5{F:Fm K x q st ps}(S:Sc N ps st)
 (gp:∀ (aV:Yy) (A:aac) (outer:List Env) (s:YB) (H:Hp) (vs:List V) (Q:VK) (E:XK),bN k (A.deeper (aaf q (dk st) s.heap.objs.size F.a aV))->sp vs H Q E ->
   ∃ t,aM (eJ (dm P w) P w K mg base N q (dk st) F.a aV A outer s H E) (gN st) t/\t { nx:=λ_ H'=>Q .non H',rt:=Q } (start N vs) H)
 (len:∀ vs H Q E,sp vs H Q E->vs.length=ps.length:=by intro _ _ _ _ h;cases h;subst_vars;rfl):Om P w mg base (k+1) F sp:=iH F.F S.1 len gp
end
section
theorem aJ(i:Nat)(hN:X.N.Nodup)(he:PE X e te)(hi:X.N[i]?=some x:=by rfl)(hx:Loc X.env.scope x:=by first|exact aca rfl|exact afn rfl)(hs:acr e (some (.Name x pos')) pos.line X.env=pure false:=by rfl)(hf:X.fn x=true∨X.env.scope.names.lookup x=some .local:=by first|exact .inl rfl|exact .inr rfl) :
 PS X (.Assign [.Name x pos'] e pos) (tU te (cj i)):=iy hN hi hx he hs hf
theorem bX(i:Nat)(hN:X.N.Nodup)(hi:X.N[i]?=some x:=by rfl)(hx:Loc X.env.scope x:=by first|exact aca rfl|exact afn rfl)(hf:X.fn x=true∨X.env.scope.names.lookup x=some .local:=by first|exact .inl rfl|exact .inr rfl):PG X (.Name x pos) (cj i):=gi hN hi hx hf
theorem aF{k n:Nat}{ps:List Str}{sp:Sp}{st:aaj}{CX:gk}{N:Fn X.K X.mg x st ps}(F:dX X.prog X.w X.K X.mg X.base CX k N.a N.fd ps sp)(hr:bN n X.A)(ha:PA X (e::es) t)(hx:Passes CX X E0:=by exact bO)
 (hk:k<=n:=by decide) (hg:Gl X x:=by rfl) (fu:(x == ("__debug__" : Str))=false:=by decide) (he:YQ (e::es) X.env=(false,eval e X.env)::YQ es X.env:=by rfl) (dM:(aap pos (YQ es X.env)).any (·.1)=false:=by rfl) :
 PE X (.Call (.Name x p) (e::es) [] pos) (qh sp [] E0 t):=Sd N F hr hx ha hk hg fu he dM
end
end Gz
namespace Gz
open PySem L2
theorem vk:∀ {xs ys:List Int},xs.Nodup->(∀ x∈xs,x∈ys)->xs.length<=ys.length
 | [],_,_,_=>YS _
 | x::xs,ys,h,k=>by obtain⟨h1,h2⟩:=ZC.mp h;have hx:=k x (.head _);have ih:=vk (ys:=ys.erase x) h2 λy hy=>(aej (λz=>h1 (by rw[<- z];exact hy))).mpr (k y (.tail _ hy));rw[adl hx] at ih;have:=adS hx;rw[Zn];omega
end Gz
namespace Gz
open PySem PySem.Spec PyProof.Rows L2
theorem G4(hL:(L.length:Int)<=mo)(hc:gZ ps c)(hg:∀ k s,gs[k]?=some s->bD s (c k))(gB:gs.length<=ps.length+1)(hw:meets (dP tb L) c)(ht:∀ r∈tb,r.1.2.toNat<=ps.length) :
 ∀ (t:Pp) (as:List Int),as.Nodup->(∀ x∈as,x∈L)->¬ Val ps gs tb mo t as
 | .nil,_,_,_,h=>h
 | .full,as,hn,hs,h=>by have:=vk hn hs;have h:mo<as.length:=h;lia
 | .cls x a b,as,hn,hs,h=>by
  obtain⟨⟨m,n,hm,jg,bq⟩,ha,hb⟩:=h;have met:∀ (s:En × Nat) (k:Mk),iU gs tb as s k->(∀ e,s.1=some e->e∉L)->bD k.2 (c k.1)/\k.1<=ps.length:=λs k hk hl=>by
   obtain⟨h1,h2⟩:=hk;obtain⟨o,j⟩:=s;cases o with
   | none =>
    have h2:gs[j]?=some k.2:=h2;have:=(Yx.mp h2).1;have h1:k.1=j:=h1;rw[h1];exact⟨hg _ _ h2,by lia⟩
   | some e =>
    have h2:e∉as/\((e,(j:Int)),k.2)∈tb:=h2;have h1:k.1=j:=h1;have hJ:(j,k.2)∈dP tb L:=yX.mpr ⟨_,h2.2,hl e rfl,by simp⟩;have:=ht _ h2.2;rw[h1];exact⟨hw _ hJ,by simpa using this⟩
  have step:∀ (e:Int) (t:Pp) (s:En × Nat) (k:Mk),iU gs tb as s k->s.1=some e->e∈L->Val ps gs tb mo t (as++[e])->sizeOf t<1+sizeOf x+sizeOf a+sizeOf b->False:=λe t s k hk es hl hv aT=>by
   have zg:e∉as:=by obtain⟨_,h2⟩:=hk;rw[es] at h2;exact h2.1
   refine G4 hL hc hg gB hw ht t (as++[e]) (adm.mpr ⟨hn,by simp,λy hy z hz=>?_⟩) (λy hy=>?_) hv
   .obtain rfl:z=e:=by simpa using hz
    exact λq=>zg (q ▸ hy)
   .rcases Y3.mp hy with z|z
    .exact hs y z
    .obtain rfl:y=e:=by simpa using z
     exact hl
  by_cases h1:∃ e,x.1.1=some e/\e∈L
  .obtain⟨e,e1,e2⟩:=h1;rw[e1] at ha;exact step e a x.1 m hm e1 e2 ha (by lia)
  by_cases h2:∃ e,x.2.1=some e/\e∈L
  .obtain⟨e,e1,e2⟩:=h2;have hb:if x.1.1=some e then b = .nil else Val ps gs tb mo b (as++[e]):=by rw[e1] at hb;exact hb
   rw[if_neg (λz=>h1 ⟨e,z,e2⟩)] at hb;exact step e b x.2 n jg e1 e2 hb (by lia)
  have m1:=met x.1 m hm λe he z=>h1 ⟨e,he,z⟩;have m2:=met x.2 n jg λe he z=>h2 ⟨e,he,z⟩;refine Pm (ms:=[m,n]) hc (λq hq=>?_) (λq hq=>?_) (.head _) (.tail _ (.head _)) bq
  .rcases YK.mp hq with rfl|hq
   .exact m1.1
   .obtain rfl:q=n:=by simpa using hq
    exact m2.1
  .rcases YK.mp hq with rfl|hq
   .exact m1.2
   .obtain rfl:q=n:=by simpa using hq
    exact m2.2
termination_by t=>sizeOf t
decreasing_by simp_wf;lia
theorem zh(f:Nat->Int):∀ i,(firstMet f i).Nodup
 | 0=>ac0
 | i+1=>by
  rw[firstMet_succ];unfold step_dedup;split
  .exact zh f i
  .rename_i h;refine adm.mpr ⟨zh f i,by simp,λa ha b hb z=>h ?_⟩;obtain rfl:b=f i:=by simpa using hb
   exact aai.mpr ⟨a,ha,by simpa using z⟩
theorem Sg(ns:List Int)(x:Int):x∈firstMet (λi=>ns.getD i 0) ns.length↔x∈ns:=by
 have h:=firstMet_any (λi=>ns.getD i 0) ns.length x;have e:(YZ ns.length).map (λi=>ns.getD i 0)=ns:=by refine adG (by simp) λi h1 h2=>?_;simp[h2]
 rw[e] at h;constructor
 .intro z;have:ns.any (· == x)=true:=by rw[<- h];exact aai.mpr ⟨x,z,by simp⟩
  obtain⟨y,hy,e⟩:=aai.mp this;exact (by simpa using e:y=x) ▸ hy
 .intro z;have:(firstMet (λi=>ns.getD i 0) ns.length).any (· == x)=true:=by rw[h];exact aai.mpr ⟨x,z,by simp⟩
  obtain⟨y,hy,e⟩:=aai.mp this;exact (by simpa using e:y=x) ▸ hy
def G5(K:Yp)(t:TE):TE:=λσ H Q=>t σ H λv H1=>∃ (a:YC) (ns:List Int),v=V.ref a/\ai K H1 a (ns.map V.int)/\ns.length<=1000/\∀ zs:List Int,zs.Nodup->(∀ x,x∈zs↔x∈ns)->Q (.int zs.length) H1
theorem Sh(hc:X.calm=true)(he:PE X e t)(yP:X.mg "len" = none)(lG:X.mg "set" = none)(mV:Gl X "len" := by rfl)(qW:Gl X "set" := by rfl)(cA:YQ [e] X.env=[(false,eval e X.env)]:=by rfl)(qX:YQ [.Call (.Name "set" p2) [e] [] fR] X.env=[(false,eval (.Call (.Name "set" p2) [e] [] fR) X.env)]:=by rfl) :
 PE X (.Call (.Name "len" p1) [.Call (.Name "set" p2) [e] [] fR] [] pos) (G5 X.K t):=by
 intro pins s σ H Q I h;refine ZP (eX I mV yP cD ?_ (by decide) (by decide));refine aaX ?_ (by rw[qX];rfl) rfl;rw[qX];show YL _ _ (spliced ((false,eval (.Call (.Name "set" p2) [e] [] fR) X.env)::aap pos [])) _ _ s;refine aae ?_;refine ZP (eX I qW lG FT ?_ (by decide) (by decide));refine Y7 ?_ (by rw[cA];rfl) rfl;rw[cA];show YL _ _ (spliced ((false,eval e X.env)::aap fR [])) _ _ s;refine aae (aB (he pins s σ H _ I h) λu s1 zq=>?_);obtain⟨x,H1,I1,r1,q1⟩:=zq;obtain⟨a,ns,rfl,hS,hn,q⟩:=q1;cases r1;refine aas ?_;obtain⟨us,rv,pl,hz⟩:=I1.list hS;have hl:us.length=ns.length:=by have:=rv.length;rw[Yq] at this;lia
 refine call_set_list (items:=us.toArray) (ns:=ns) (I1.ok.hd hc) pl.isList (intsAre_of rv) (by simp;rw[hl];exact ZE (Nat.succ_le_succ hn) (by decide)) λh2 tk Si hk=>?_;refine aas ?_;obtain⟨o,es,ep,tb,g1,g2,g3,g4,g5,g6,g7,g8⟩:=Si;have Sj:us.toArray.size=ns.length:=by simp[hl]
 rw[Sj] at g8;refine call_len_set g1 g2 g3 g7 (by rw[g8];have:=firstMet_length_le (λi=>ns.getD i 0) ns.length;lia) ?_;refine⟨.int es.size,H1,I1.kept λb o hb=>hk b o (Yv hb) hb,⟨_,rfl⟩,?_⟩;rw[g8];exact q _ (zh _ _) (Sg ns)
def kO(sw gw:List W2)(tb:Tb)(m:Int)(L:List Int)(c:Nat->Int):Prop:=(L.length:Int)<=m/\(∀ (j:Nat) w,sw[j]?=some w->c8 w (c (j+1)-c j))/\(∀ (j:Nat) w,gw[j]?=some w->c8 w (c j))/\∀ r∈tb,r.1.1∉L->bD r.2 (c r.1.2.toNat)
theorem zi:meets (dP tb L) c ↔ ∀ r∈tb,r.1.1∉L->bD r.2 (c r.1.2.toNat):=by
 unfold meets dP;constructor
 .intro h r hr hn;exact h (r.1.2.toNat,r.2) (YI.mpr ⟨r,Y4.mpr ⟨uV.mem_iff.mpr hr,by simpa using hn⟩,rfl⟩)
 .intro h m hm;obtain⟨r,hr,rfl⟩:=YI.mp hm;obtain⟨h1,h2⟩:=Y4.mp hr;exact h r (uV.mem_iff.mp h1) (by simpa using h2)
theorem zj:(∀ (j:Nat) w,(pp.map fS)[j]?=some w->c8 w (c (j+1)-c j))↔gZ pp c:=by
 constructor
 .intro h k hk;obtain⟨s,e,h1,h2⟩:=h k (fS (aE pp k)) (by rw[YG,Ys hk];unfold aE;rw[Yr,Ys hk];rfl);unfold fS at e;cases e;exact⟨h1 _ rfl,h2 _ rfl⟩
 .intro h j w hw;rw[YG] at hw;obtain⟨p,hp,rfl⟩:=Y6.mp hw;have hj:=(Yx.mp hp).1;have:=h j hj;unfold aE at this;rw[Yr,hp] at this;exact⟨_,rfl,λa z=>by cases z;exact this.1,λa z=>by cases z;exact this.2⟩
theorem zk{gs:List S2}{c:Nat->Int}:(∀ (j:Nat) w,(gs.map some)[j]?=some w->c8 w (c j)) ↔ ∀ (j:Nat) s,gs[j]?=some s->bD s (c j):=by
 constructor
 .intro h j s hs;obtain⟨s',e,z⟩:=h j (some s) (by rw[YG,hs];rfl);cases e;exact z
 .intro h j w hw;rw[YG] at hw;obtain⟨s,hs,rfl⟩:=Y6.mp hw;exact⟨s,rfl,h j s hs⟩
theorem Sk(h:bV e t tb)(he:0<=e)(ht:0<=t):(tb.length:Int)<=e * t:=by
 have z:∀ {i i' j j':Int},i<i'->j<t->0<=j'->i * t+j<i' * t+j':=λ{i i' j j'} a b c=>by have:=Int.mul_le_mul_of_nonneg_right (show i+1<=i' by lia) ht;rw[agK,Int.one_mul] at this;lia
 have:=vk (xs:=tb.map λr=>r.1.1 * t+r.1.2) (ys:=(YZ (e * t).toNat).map λn:Nat=>(n:Int)) ?_ ?_
 .rw[Yq,Yq,YE] at this;have:=aa4 he ht;lia
 .have hn:=h.1;unfold List.Nodup at hn ⊢;rw[adh] at hn ⊢;refine hn.imp_of_mem λ{a b} ha hb bF q=>bF ?_;obtain⟨⟨a1,a2⟩,a3,a4⟩:=h.2 a ha;obtain⟨⟨b1,b2⟩,b3,b4⟩:=h.2 b hb;rcases Int.lt_trichotomy a.1.1 b.1.1 with c|c|c
  .have:=z c a4 b3;lia
  .rw[c] at q;exact Prod.ext c (by lia)
  .have:=z c b4 a3;lia
 .intro x hx;obtain⟨r,hr,rfl⟩:=YI.mp hx;obtain⟨⟨a1,a2⟩,a3,a4⟩:=h.2 r hr;have q:=z a2 a4 (Zv 0);have q0:=aa4 a1 ht;exact YI.mpr ⟨(r.1.1 * t+r.1.2).toNat,Zp.mpr (by lia),by lia⟩
noncomputable def m6(H:Hp)(q:P2)(u:Yy):Bool:=match u with
 | .ref a=>(match H a with|some (.tup [.int i,.int j])=>decide (((i,j):P2)=q)|_=>false)
 | _=>false
theorem Sl(a b:P2):aag (.tuple [.int a.1,.int a.2]) (.tuple [.int b.1,.int b.2])=decide (a=b):=by obtain⟨a1,a2⟩:=a;obtain⟨b1,b2⟩:=b;simp only[aag,aa1];by_cases h1:a1=b1<;>by_cases h2:a2=b2<;>simp[h1,h2]
def Sm(K:Yp):R2:=λx y H Q=>∃ p xs qs q,y = .ref p/\ai K H p xs/\bL H xs qs/\aR H x q/\Q (.bl (decide (q∈qs))) H
section
theorem vm{K:Yp}{H:Hp}{v:V}{q:P2}(h:aR H v q):Dat K H v (.tuple [.int q.1,.int q.2]):=by obtain⟨a,rfl,h⟩:=h;exact .tup (ah.of h) (.cons (.int _) (.cons (.int _) .nil))
theorem G6(I:Inv X pins σ H s)(hu:A.units+60<acv)(rx:RelV x v)(hq:aR H x q):∀ {xs:List V} {us:List Yy} {qs:List P2},Vals xs us->bL H xs qs->(∀ u∈us,SeqAt.EqAt A s u v (m6 H q u))/\us.any (m6 H q)=decide (q∈qs)
 | _,_,[],.nil,_=>⟨λu hu=>(nomatch hu),rfl⟩
 | y::xs,u::us,o::qs,.cons r t,h=>by
  obtain⟨i1,i2⟩:=G6 I hu rx hq t h.2;obtain⟨bs,rb⟩:=Dat.reads I _ (vm hq) rx;obtain⟨as,ra⟩:=Dat.reads I _ (vm h.1) r;have e:m6 H q u=decide (o=q):=by obtain⟨a,rfl,ha⟩:=h.1;cases r;unfold m6;simp only[ha]
  refine⟨λw hw=>?_,?_⟩
  .rcases YK.mp hw with rfl|hw
   .rw[e,<- Sl];exact SeqAt.eqAt_reads _ _ A s _ _ as bs ra rb rfl rfl (by simp only[PyData.depth,abd];lia)
   .exact i1 w hw
  .rw[ZN,i2,e];by_cases h1:o=q
   .subst h1;simp
   .by_cases h2:q∈qs<;>simp[h1,h2,Zj h1]
theorem Sn(hu:X.A.units+64<acv):aX X (Zw .In) (Sm X.K):=by
 intro pins s σ H x y v u Q I rx ry h;obtain⟨p,xs,qs,q,rfl,hq,hp,hx,h⟩:=h;cases ry;obtain⟨ao,r,pl,hz⟩:=I.list hq;have So:X.A.in1.units+60<acv:=by have:X.A.in1.units=X.A.units+1:=rfl;lia
 obtain⟨i1,i2⟩:=G6 I So rx hx r hp;refine SeqAt.in_listAt (m6 H q) pl.isList (λw hw=>i1 w (by simpa using hw)) ⟨.bl _,H,I,rfl,?_⟩;rw[show ao.toArray.any (m6 H q)=ao.any (m6 H q) by simp,i2];exact h
end
end Gz
namespace zm
open PySem L2 Gz
local macro_rules | `(tactic| walk_at "d") => `(tactic| dsimp only [seval, Nat.reduceAdd, Nat.reduceSub, ↓reduceIte, tS, B9, t4, my, Cf, wF, tC, B8, B6, tU, cj, w5, t6, qg, qh, BW, BX, tB, BZ, B0, B1, B2, B3, B4, B5, B7, rI, fI, rU, Ci, Cj, My, Mz, MA, MB, MC, Mr, Ms, Mt, Mu, Mv, Mw, ite_tt, ite_ff, L2.start, MD, ME, List.map_cons, List.map_nil, List.length_cons, List.length_nil, List.replicate, List.nil_append, List.cons_append, List.getElem?_cons_zero, List.getElem?_cons_succ, List.set_cons_zero, List.set_cons_succ, Bool.not_true, Bool.not_false, Cy, Cz, C1, LM, C4, MF, MG, MH, uk, uw, Of, xu, wI, tV, xt, Cc, CW, x4, wL, wK, N1, N2, Cu, Cv, wZ, CB, CO, CL, CM, CY, C6, NS, NT, NU, wV, DA, xO, xR, xU, GK, RE, RF, RG, RH, RI, RJ, RK, RL, RM, RN, RO, RV, RP, RQ, RS, RT, RU, rm, ve, za, zb, GN, o6, GR, GS, RY, GP, RZ, R0, R1, R4, R5, R6, R7, R8, R9, Sa, Sb, GU, GV, GW, GX, GY, GZ, G2, G3, uE, uF, E9, yd, OF, EF, EG, E6, FA, LX, mR, mS, cR, ji, GH, FH, PU, FG, yF, PX, FW, F8, PQ, G5, Ga])
local macro_rules | `(tactic| walk_at "s") => `(tactic| simp only [seval, Nat.reduceAdd, Nat.reduceSub, reduceCtorEq, ↓reduceIte, ite_tt, ite_ff, List.map_cons, List.map_nil, List.length_cons, List.length_nil, List.nil_append, List.cons_append, Option.some.injEq, V.int.injEq, V.bl.injEq, V.ref.injEq, List.cons.injEq, exists_eq_left, exists_eq_left', exists_and_left, true_and, and_true, decide_eq_true_eq, Nat.zero_add, Nat.sub_self, Nat.add_one_sub_one, decide_true, decide_false, Bool.not_eq_true', decide_eq_false_iff_not, false_and, exists_false, and_assoc, not_false_eq_true, not_true_eq_false, List.append_nil, Option.join_some])
local macro_rules | `(tactic| walk_at "p") => `(tactic| first | (walk_at "d"; repeat (first | walk_at "s" | walk_at "d")) | (walk_at "s"; repeat (first | walk_at "d" | walk_at "s")))
local macro_rules | `(tactic| walk_at "g") => `(tactic| try walk_at "p")
local macro_rules|`(tactic|rfl')=>`(tactic|walk_at "g")
local macro_rules | `(tactic| walk_at "c") => `(tactic| (refine ⟨⟨rfl, rfl, rfl, by decide +kernel, rfl, by decide +kernel, by decide +kernel⟩, fun _ _ _ _ _ _ _ _ => ?_⟩; (repeat (refine Se fun _ => ?_)); exact Sf rfl))
theorem Fb.fp(b:Fb K x q st p)(S:Sc N ps st):∃ F:Fm K x q st ps,p F.a :=
 let ⟨a,l,c,k⟩:=b;⟨⟨_,_,nX l c k,(nX l c k).binds (S.b x q)⟩,a⟩
inductive dQ(H:Hp)(v:V)(m:Mk):Prop
 | mk(t p:YC)(_:v = .ref t)(_:H t=some (.tup [.int m.1,.ref p]))(_:H p=some (.tup [ev m.2.1,ev m.2.2]))
theorem dQ.same(h:dQ H v m)(s:aj H H'):dQ H' v m:=let ⟨t,p,e,a,b⟩:=h;⟨t,p,e,s _ _ a,s _ _ b⟩
def top(i:Nat):aaj:=PySem.Challenge.pw_gaze_k67_windows_of_rises.main.body.getD i (.Pass ⟨0,0,0,0⟩)
abbrev zo:aaj:=top 8
abbrev zp:aaj:=top 9
abbrev zr:aaj:=top 10
abbrev zt:aaj:=top 12
abbrev zu:aaj:=top 13
abbrev zv:aaj:=top 14
abbrev zw:aaj:=top 15
abbrev zx:aaj:=top 16
abbrev zy:aaj:=top 19
abbrev zz:aaj:=inClass (top 21) 0
abbrev zA:aaj:=inClass (top 21) 1
abbrev zB:aaj:=inClass (top 22) 0
abbrev zC:aaj:=inClass (top 22) 1
abbrev zD:aaj:=inClass (top 22) 2
abbrev zE:aaj:=top 24
abbrev zF:aaj:=top 26
abbrev zG:aaj:=top 27
abbrev zH:aaj:=top 28
abbrev zI:aaj:=top 29
abbrev zJ:aaj:=top 30
abbrev zK:aaj:=top 31
abbrev zL:aaj:=top 32
abbrev zM:aaj:=top 33
abbrev zN:aaj:=top 34
abbrev zO:aaj:=top 36
abbrev zP:aaj:=top 37
abbrev zQ:aaj:=top 38
abbrev zR:aaj:=top 39
abbrev zS:aaj:=top 41
abbrev zT:aaj:=top 42
abbrev zU:aaj:=top 43
abbrev zV:aaj:=top 44
abbrev zW:aaj:=top 45
abbrev zX:aaj:=top 46
abbrev zY:aaj:=top 48
abbrev zZ:aaj:=top 49
abbrev z5:aaj:=top 50
abbrev z6:aaj:=top 51
abbrev z7:aaj:=top 52
abbrev z8:aaj:=inClass (top 56) 0
abbrev z9:aaj:=inClass (top 56) 1
abbrev Aa:aaj:=inClass (top 56) 2
abbrev Ab:aaj:=inClass (top 56) 3
abbrev Ac:aaj:=inClass (top 56) 4
abbrev Ad:aaj:=inClass (top 56) 6
abbrev Ae:aaj:=inClass (top 56) 10
abbrev Af:aaj:=inClass (top 56) 11
abbrev Ag:aaj:=top 58
abbrev Ah:aaj:=top 59
abbrev Ai:aaj:=top 60
abbrev Aj:aaj:=top 61
abbrev Ak:aaj:=top 62
abbrev Al:aaj:=top 63
abbrev Am:aaj:=top 64
abbrev An:aaj:=top 65
abbrev Ao:aaj:=top 66
abbrev Ap:aaj:=top 67
abbrev Aq:aaj:=top 68
abbrev Ar:aaj:=top 69
abbrev As:aaj:=top 70
abbrev Au:aaj:=top 71
abbrev Av:aaj:=top 72
abbrev Aw:aaj:=top 73
abbrev Ax:aaj:=top 74
abbrev Ay:aaj:=top 75
abbrev Az:aaj:=top 76
abbrev AA:aaj:=top 77
abbrev AB:aaj:=top 78
abbrev AD:aaj:=top 79
abbrev AE:aaj:=top 80
abbrev AF:aaj:=top 81
abbrev AG:aaj:=top 82
abbrev AH:aaj:=top 83
abbrev AI:aaj:=top 84
theorem G7:Sc ["lo","hi"] ["lo","hi"] zo:=by walk_at "c"
theorem vo:Sc ["one","other","lo","hi"] ["one","other"] zp:=by walk_at "c"
theorem rn:Sc ["some","whole","one"] ["some"] zr:=by walk_at "c"
theorem G8:Sc ["board","kind","turn"] ["board","kind","turn"] zt:=by walk_at "c"
theorem AJ:Sc ["board","claim","part"] ["board","claim"] zu:=by walk_at "c"
theorem G9:Sc ["claim","kind","turn"] ["claim","kind","turn"] zv:=by walk_at "c"
theorem AK:Sc ["board","claim","own"] ["board","claim"] zw:=by walk_at "c"
theorem Ha:Sc ["board","claim"] ["board","claim"] zx:=by walk_at "c"
theorem Hb:Sc ["first","last","one"] ["first","last","one"] zy:=by walk_at "c"
theorem Hc:Sc ["self","first","last"] ["self","first","last"] zz:=by walk_at "c"
theorem Hd:Sc ["self"] ["self"] zA:=by walk_at "c"
theorem He:Sc ["self","first","last","low","high"] ["self","first","last","low","high"] zB:=by walk_at "c"
theorem rq:Sc ["self","found","turn","lows"] ["self"] zC:=by walk_at "c"
theorem Hf:Sc ["self"] ["self"] zD:=by walk_at "c"
theorem Hg:Sc ["cell"] ["cell"] zE:=by walk_at "c"
theorem vq:Sc ["one","step","lo","hi"] ["one","step"] zF:=by walk_at "c"
theorem m8:Sc ["boxes","steps","kept","turn","box","left"] ["boxes","steps"] zG:=by walk_at "c"
theorem Hh:Sc ["marks","turn"] ["marks","turn"] zH:=by walk_at "c"
theorem vt:Sc ["steps","marks","forth","backward"] ["steps","marks"] zI:=by walk_at "c"
theorem o8:Sc ["steps","marks","boxes","course","step","box"] ["steps","marks"] zJ:=by walk_at "c"
theorem Hi:Sc ["one","other"] ["one","other"] zK:=by walk_at "c"
theorem Hj:Sc ["one","by"] ["one","by"] zL:=by walk_at "c"
theorem m9:Sc ["steps","marks","tops","number","mark","turn"] ["steps","marks"] zM:=by walk_at "c"
theorem rA:Sc ["tops","marks","number","mark","top"] ["tops","marks"] zN:=by walk_at "c"
theorem Hk:Sc ["board","eye"] ["board","eye"] zO:=by walk_at "c"
theorem Hl:Sc ["board","some"] ["board","some"] zP:=by walk_at "c"
theorem Hm:Sc ["board"] ["board"] zQ:=by walk_at "c"
theorem kP:Sc ["steps","groups","found","name","marks","tops","beside","others","pair"] ["steps","groups"] zR:=by walk_at "c"
theorem Hn:Sc ["pairs","eye"] ["pairs","eye"] zS:=by walk_at "c"
theorem Ho:Sc ["pair"] ["pair"] zT:=by walk_at "c"
theorem rB:Sc ["pairs","most","eye","others"] ["pairs","most"] zU:=by walk_at "c"
theorem Hq:Sc ["pairs","eye","most"] ["pairs","eye","most"] zV:=by walk_at "c"
theorem nc:Sc ["pairs","most","one","other","first","second"] ["pairs","most"] zW:=by walk_at "c"
theorem ng:Sc ["board","claim","steps","goals","marks","pairs","aside"] ["board","claim"] zX:=by walk_at "c"
theorem rC:Sc ["board","claims","papers","claim","answer"] ["board","claims"] zY:=by walk_at "c"
theorem rD:Sc ["board","event","fitting","without","having"] ["board","event"] zZ:=by walk_at "c"
theorem Hr:Sc ["board","pair","low","high"] ["board","pair","low","high"] z5:=by walk_at "c"
theorem Hs:Sc ["one","other"] ["one","other"] z6:=by walk_at "c"
theorem rE:Sc ["board","low","high","pairs","first","sure"] ["board","low","high"] z7:=by walk_at "c"
theorem Ht:Sc ["self","eyes","turns","up","down","most"] ["self","eyes","turns","up","down","most"] z8:=by walk_at "c"
theorem Hu:Sc ["self","eye"] ["self","eye"] z9:=by walk_at "c"
theorem Hv:Sc ["self","turn"] ["self","turn"] Aa:=by walk_at "c"
theorem Hw:Sc ["self","eye","turn","lo","hi"] ["self","eye","turn","lo","hi"] Ab:=by walk_at "c"
theorem Hy:Sc ["self","eye","turn"] ["self","eye","turn"] Ac:=by walk_at "c"
theorem Hz:Sc ["self"] ["self"] Ad:=by walk_at "c"
theorem HC:Sc ["self","eye","turn"] ["self","eye","turn"] Ae:=by walk_at "c"
theorem HD:Sc ["self","eye","turn"] ["self","eye","turn"] Af:=by walk_at "c"
theorem HE:Sc ["_law_script","_law_k","_law_prime","_law_many"] ["_law_script","_law_k","_law_prime","_law_many"] Ag:=by walk_at "c"
theorem AL:Sc ["_law_script","_law_great"] ["_law_script"] Ah:=by walk_at "c"
theorem HF:Sc ["_law_found"] ["_law_found"] Ai:=by walk_at "c"
theorem HG:Sc ["_law_span","_law_number"] ["_law_span","_law_number"] Aj:=by walk_at "c"
theorem fU:Sc ["_law_script","_law_sort","_law_eyes","_law_turns","_law_unit","_law_ups","_law_downs"] ["_law_script"] Ak:=by walk_at "c"
theorem rF:Sc ["_law_script","_law_shape_here","_law_base_here","_law_course","_law_turn","_law_step"] ["_law_script","_law_shape_here","_law_base_here"] Al:=by walk_at "c"
theorem nh:Sc ["_law_script","_law_k","_law_number","_law_unit","_law_lo","_law_hi","_law_open_end"] ["_law_script","_law_k","_law_number","_law_unit"] Am:=by walk_at "c"
theorem iW:Sc ["_law_script","_law_shape_here","_law_course","_law_words","_law_wrong","_law_eye","_law_turn","_law_k","_law_number","_law_silent"] ["_law_script","_law_shape_here","_law_course"] An:=by walk_at "c"
theorem vx:Sc ["_law_world_here","_law_board_here","_law_spot"] ["_law_world_here"] Ao:=by walk_at "c"
theorem HH:Sc ["_law_world_here","_law_course"] ["_law_world_here","_law_course"] Ap:=by walk_at "c"
theorem AM:Sc ["_law_world_here","_law_course","_law_turn"] ["_law_world_here","_law_course"] Aq:=by walk_at "c"
theorem ni:Sc ["_law_begin","_law_claim","_law_sort","_law_turn","_law_lo","_law_hi","_law_part"] ["_law_begin","_law_claim","_law_sort","_law_turn"] Ar:=by walk_at "c"
theorem HI:Sc ["_law_span"] ["_law_span"] As:=by walk_at "c"
theorem AN:Sc ["_law_steps","_law_one","_law_other","_law_up"] ["_law_steps","_law_one","_law_other"] Au:=by walk_at "c"
theorem HJ:Sc ["_law_world_here","_law_goals","_law_spot","_law_aside"] ["_law_world_here","_law_goals","_law_spot","_law_aside"] Av:=by walk_at "c"
theorem HK:Sc ["_law_world_here","_law_steps","_law_goals","_law_paper","_law_eye","_law_aside"] ["_law_world_here","_law_steps","_law_goals","_law_paper","_law_eye","_law_aside"] Aw:=by walk_at "c"
theorem vy:Sc ["_law_world_here","_law_steps","_law_goals","_law_paper","_law_aside","_law_one","_law_other"] ["_law_world_here","_law_steps","_law_goals","_law_paper","_law_aside"] Ax:=by walk_at "c"
theorem o9:Sc ["_law_world_here","_law_steps","_law_goals","_law_paper","_law_aside","_law_spans"] ["_law_world_here","_law_steps","_law_goals","_law_paper","_law_aside"] Ay:=by walk_at "c"
theorem rG:Sc ["_law_world_here","_law_claim","_law_paper","_law_own","_law_steps","_law_goals"] ["_law_world_here","_law_claim","_law_paper"] Az:=by walk_at "c"
theorem rH:Sc ["_law_script","_law_many","_law_shape_here","_law_turns","_law_ups"] ["_law_script","_law_many"] AA:=by walk_at "c"
theorem AO:Sc ["_law_course","_law_first","_law_last","_law_low","_law_high","_law_k"] ["_law_course","_law_first","_law_last","_law_low","_law_high"] AB:=by walk_at "c"
theorem rJ:Sc ["_law_world_here","_law_board_here","_law_first","_law_last","_law_low","_law_high","_law_event","_law_found","_law_claims"] ["_law_world_here","_law_board_here","_law_first","_law_last","_law_low","_law_high"] AD:=by walk_at "c"
theorem vz:Sc ["_law_world_here","_law_board_here","_law_first","_law_last","_law_low","_law_high","_law_claim","_law_found"] ["_law_world_here","_law_board_here","_law_first","_law_last","_law_low","_law_high"] AE:=by walk_at "c"
theorem vA:Sc ["_law_told","_law_turns","_law_pair","_law_k"] ["_law_told","_law_turns"] AF:=by walk_at "c"
theorem pd:Sc ["_law_world_here","_law_board_here","_law_low","_law_high","_law_told","_law_beside","_law_first","_law_last","_law_within_here"] ["_law_world_here","_law_board_here","_law_low","_law_high","_law_told"] AG:=by walk_at "c"
theorem rK:Sc ["_law_board_here","_law_low","_law_high","_law_caught","e"] ["_law_board_here","_law_low","_law_high"] AH:=by walk_at "c"
theorem fV:Sc ["_law_script","_law_shape_here","_law_course","_law_world_here","_law_low","_law_high","_law_board_here","_law_told","_law_kept","_law_spot"] ["_law_script"] AI:=by walk_at "c"
set_option genInjectivity false
set_option genSizeOf false
structure Tx(K:Yp)(mg:Str->Option Yy) where
 rL:Fn K mg "is_crossed" zo ["lo","hi"]
 rM:Fn K mg "meet" zp ["one","other"]
 rN:Fn K mg "common" zr ["some"]
 rO:Fn K mg "has_part" zt ["board","kind","turn"]
 iX:Fn K mg "check_claim" zu ["board","claim"]
 rP:Fn K mg "stretches_of" zv ["claim","kind","turn"]
 lO:Fn K mg "paces" zw ["board","claim"]
 lP:Fn K mg "wanted" zx ["board","claim"]
 rQ:Fn K mg "parts_at" zy ["first","last","one"]
 kQ:Fm K "__init__" "Spanned.__init__" zz ["self","first","last"]
 jS:Fm K "far" "Spanned.far" zA ["self"]
 kR:Fm K "__init__" "Rose.__init__" zB ["self","first","last","low","high"]
 lQ:Fm K "ways" "Rose.ways" zC ["self"]
 jT:Fm K "breaks" "Rose.breaks" zD ["self"]
 rR:Fn K mg "number_in" zE ["cell"]
 rS:Fn K mg "moved" zF ["one","step"]
 rT:Fn K mg "narrowed" zG ["boxes","steps"]
 rV:Fn K mg "stretches_at" zH ["marks","turn"]
 rW:Fn K mg "tube" zI ["steps","marks"]
 rX:Fn K mg "course_in" zJ ["steps","marks"]
 rY:Fn K mg "lesser" zK ["one","other"]
 rZ:Fn K mg "lifted" zL ["one","by"]
 se:Fn K mg "ceilings" zM ["steps","marks"]
 sf:Fn K mg "crossing" zN ["tops","marks"]
 si:Fn K mg "marks_of" zO ["board","eye"]
 sk:Fn K mg "marks_without" zP ["board","some"]
 so:Fn K mg "groups_of" zQ ["board"]
 sq:Fn K mg "clashes" zR ["steps","groups"]
 iY:Fn K mg "without" zS ["pairs","eye"]
 lR:Fn K mg "eyes_of" zT ["pair"]
 iZ:Fn K mg "put_aside" zU ["pairs","most"]
 ib:Fn K mg "branch" zV ["pairs","eye","most"]
 ic:Fn K mg "paper" zW ["pairs","most"]
 x_ask:Fn K mg "ask" zX ["board","claim"]
 i3:Fn K mg "seek" zY ["board","claims"]
 i4:Fn K mg "verdict" zZ ["board","event"]
 sr:Fn K mg "is_sure" z5 ["board","pair","low","high"]
 sx:Fn K mg "lies_within" z6 ["one","other"]
 fW:Fn K mg "windows" z7 ["board","low","high"]
 nj:Fm K "__init__" "Board.__init__" z8 ["self","eyes","turns","up","down","most"]
 lS:Fm K "has_eye" "Board.has_eye" z9 ["self","eye"]
 ie:Fm K "has_turn" "Board.has_turn" Aa ["self","turn"]
 lT:Fm K "tell" "Board.tell" Ab ["self","eye","turn","lo","hi"]
 lU:Fm K "hush" "Board.hush" Ac ["self","eye","turn"]
 kS:Fm K "tellings" "Board.tellings" Ad ["self"]
 lV:Fm K "check_spot" "Board.check_spot" Ae ["self","eye","turn"]
 lW:Fm K "check_word" "Board.check_word" Af ["self","eye","turn"]
 sy:Fn K mg "_law_draw" Ag ["_law_script","_law_k","_law_prime","_law_many"]
 sA:Fn K mg "_law_base" Ah ["_law_script"]
 lX:Fn K mg "_law_whole" Ai ["_law_found"]
 sC:Fn K mg "_law_within" Aj ["_law_span","_law_number"]
 sD:Fn K mg "_law_shape" Ak ["_law_script"]
 sE:Fn K mg "_law_true_course" Al ["_law_script","_law_shape_here","_law_base_here"]
 sF:Fn K mg "_law_word" Am ["_law_script","_law_k","_law_number","_law_unit"]
 sG:Fn K mg "_law_world" An ["_law_script","_law_shape_here","_law_course"]
 sH:Fn K mg "_law_board" Ao ["_law_world_here"]
 sI:Fn K mg "_law_liars" Ap ["_law_world_here","_law_course"]
 sJ:Fn K mg "_law_fits" Aq ["_law_world_here","_law_course"]
 sL:Fn K mg "_law_common" Ar ["_law_begin","_law_claim","_law_sort","_law_turn"]
 i5:Fn K mg "_law_empty" As ["_law_span"]
 lY:Fn K mg "_law_climb" Au ["_law_steps","_law_one","_law_other"]
 i6:Fn K mg "_law_mark" Av ["_law_world_here","_law_goals","_law_spot","_law_aside"]
 ig:Fn K mg "_law_branch" Aw ["_law_world_here","_law_steps","_law_goals","_law_paper","_law_eye","_law_aside"]
 kT:Fn K mg "_law_clash" Ax ["_law_world_here","_law_steps","_law_goals","_law_paper","_law_aside"]
 gC:Fn K mg "_law_refuted" Ay ["_law_world_here","_law_steps","_law_goals","_law_paper","_law_aside"]
 sM:Fn K mg "_law_refutes" Az ["_law_world_here","_law_claim","_law_paper"]
 sN:Fn K mg "_law_steep" AA ["_law_script","_law_many"]
 sO:Fn K mg "_law_risen" AB ["_law_course","_law_first","_law_last","_law_low","_law_high"]
 lZ:Fn K mg "_law_sure" AD ["_law_world_here","_law_board_here","_law_first","_law_last","_law_low","_law_high"]
 l4:Fn K mg "_law_unsure" AE ["_law_world_here","_law_board_here","_law_first","_law_last","_law_low","_law_high"]
 sP:Fn K mg "_law_pairs" AF ["_law_told","_law_turns"]
 i7:Fn K mg "_law_asked_of" AG ["_law_world_here","_law_board_here","_law_low","_law_high","_law_told"]
 sQ:Fn K mg "_law_refused" AH ["_law_board_here","_law_low","_law_high"]
 nk:Fn K mg "law" AI ["_law_script"]
 HL:mg "all" = none
 HM:mg "any" = none
 Sq:mg "bool" = none
 vB:mg "enumerate" = none
 Sr:mg "int" = none
 i8:mg "isinstance" = none
 cJ:mg "len" = none
 pf:mg "list" = none
 AQ:mg "max" = none
 sR:mg "min" = none
 cQ:mg "range" = none
 Ss:mg "reversed" = none
 HN:mg "set" = none
 HP:mg "sorted" = none
 HQ:mg "sum" = none
 vC:mg "tuple" = none
 HR:mg "zip" = none
 nq:YC
 Su:mg "GazeError" = some (.ref nq)
 l5:YC
 AR:mg "NoBoard" = some (.ref l5)
 jU:YC
 AS:mg "NoTelling" = some (.ref jU)
 gD:YC
 AU:mg "NoClaim" = some (.ref gD)
 cK:YC
 vD:mg "NoEvent" = some (.ref cK)
 vE:YC
 Yc:mg "Event" = some (.ref vE)
 dH:YC
 Sv:mg "Spanned" = some (.ref dH)
 bM:YC
 AV:mg "Rose" = some (.ref bM)
 aL:YC
 Sw:mg "Board" = some (.ref aL)
 HS:dj K dH
 HU:cT K dH "first"
 HV:cT K dH "last"
 HW:Mk K dH kQ.a
 Yd:Meth K dH "far" jS.a
 de:dj K bM
 ph:cT K bM "first"
 l6:cT K bM "last"
 sS:cT K bM "low"
 sT:cT K bM "high"
 sU:Mk K bM kR.a
 Sx:Meth K bM "far" jS.a
 Sy:Meth K bM "ways" lQ.a
 AW:Meth K bM "breaks" jT.a
 bG:dj K aL
 sV:cT K aL "eyes"
 l8:cT K aL "turns"
 vF:cT K aL "up"
 vG:cT K aL "down"
 sW:cT K aL "most"
 md:cT K aL "told"
 AX:Mk K aL nj.a
 Sz:Meth K aL "has_eye" lS.a
 sX:Meth K aL "has_turn" ie.a
 SA:Meth K aL "tell" lT.a
 SD:Meth K aL "hush" lU.a
 HX:Meth K aL "tellings" kS.a
 SE:Meth K aL "check_spot" lV.a
 SF:Meth K aL "check_word" lW.a
 SG:Ex K dH "__init__" kQ.a
 sY:XC K l5
 sZ:XC K jU
 vH:XC K gD
 nr:XC K cK
 SH:acV K (.ref cK) (.ref cK)=some true
 SJ:Zq K (.ref cK) (.ref nq)=some true
 SK:Zq K (.ref cK) (.ref gD)=some false
 SM:∃ t,mg "LAST_TURN" = some (.int 11 t)
 SN:∃ t,mg "EYES_AT_MOST" = some (.int 7 t)
 SO:∃ t,mg "TURNS_AT_MOST" = some (.int 12 t)
set_option genInjectivity true
set_option genSizeOf true
section
seal L2.PE L2.PS L2.aM L2.PA
inductive SQ(vs:List V)(H:Hp)(Q:VK)(aP:XK):Prop
 | mk(v:V)(_:vs=[v])(_:(v = .non ∨ ∃ i,v = .int i))(_:Q (.bl (isWhole v)) H)
theorem pq(T:Tx K mg):Ok P w base 1 T.lX SQ:=by
 refine bf HF ?_;rintro _ _ _ _ _ _ _ _ _ ⟨v,rfl,hv,q⟩;refine⟨_,(aw (aA (eR (aZ kh (by rfl) T.i8 iB (ae (aa 0) (ae (j5 (v:=.ty "int") rfl T.Sr Mn rfl) ag))) (ft (zf (aZ kh (by rfl) T.i8 iB (ae (aa 0) (ae (j5 (v:=.ty "bool") rfl T.Sq Mo rfl) ag)))))))),?_⟩;rcases hv with rfl|⟨i,rfl⟩
 .rfl';exact q
 .rfl';exact q
inductive SR(vs:List V)(H:Hp)(Q:VK)(aP:XK):Prop
 | mk(a b:En)(_:vs=[ev a,ev b])(_:Q (.bl (aW a b)) H)
theorem HY(T:Tx K mg):Ok P w base 1 T.rL SR:=by
 refine bf G7 ?_;rintro _ _ _ _ _ _ _ _ _ ⟨a,b,rfl,q⟩;refine⟨_,(aw (aA (eR (kZ (pW (aa 0))) (eR (kZ (pW (aa 1))) (ft (eG (iV qe) (aa 0) (aa 1) (cB _))))))),?_⟩;rcases a with _|x
 .rfl';exact q
 rcases b with _|y
 .rfl';exact q
 rfl';exact q
inductive SS(vs:List V)(H:Hp)(Q:VK)(aP:XK):Prop
 | mk(v u:V)(a b c d:En)(_:vs=[v,u])(_:aK H v a b)(_:aK H u c d)(_:∀ x H',aj H H'->Et H' x (dt a c) (dw b d)->Q x H')
theorem AY(T:Tx K mg):Ok P w base 2 T.rM SS:=by
 refine bf vo ?_;rintro _ _ _ _ H _ Q _ hr ⟨v,u,a,b,c,d,rfl,⟨p,rfl,hp⟩,⟨r,rfl,bU⟩,q⟩;refine⟨_,(ar (aJ 2 vo.nd (NF rfl rfl T.AQ (c7 (bP.mk (fr:=[]) (ys:=[]) rfl (by decide +kernel) rfl (by decide +kernel) rfl rfl .nil .nil (by decide) rfl) rfl (wJ (aS (ae (aq (aa 0) af) (ae (aq (aa 1) af) ag)))) (λC s2 H2 ex pn=>⟨(gP (fT (aa 0))),(aa 0)⟩)) bH))
  (ar (aJ 3 vo.nd (NI rfl rfl T.sR (c7 (bP.mk (fr:=[]) (ys:=[]) rfl (by decide +kernel) rfl (by decide +kernel) rfl rfl .nil .nil (by decide) rfl) rfl (wJ (aS (ae (aq (aa 0) af) (ae (aq (aa 1) af) ag)))) (λC s2 H2 ex pn=>⟨(gP (fT (aa 0))),(aa 0)⟩)) bH))
  (ar (aI (bQ (aF (HY T) hr (ae (aa 2) (ae (aa 3) ag)))) (aw (aA bH)) aH)
  (aw (aA (aS (ae (aa 2) (ae (aa 3) ag)))))))),?_⟩
 rfl';refine ak (ah.of hp) rfl (ak (ah.of bU) rfl ?_);rfl';refine⟨a7,λt ht=>⟨⟨_,ah.of ax⟩,Eu ax (λx H Q h=>?_) (λx H Q h=>?_) λl hl=>?_⟩⟩
 .rfl';exact GJ (Q:=λk=>Q k H) h
 .rfl';exact h
 refine⟨l,rfl,nums a c,ai.of ax,?_⟩;rw[Oh];have s2:=(au (o:=.tup [ev a,ev c]) ht).trans (au (o:=.lst ((nums a c).map V.int)) hl);generalize upd (upd H t (.tup [ev a,ev c])) l (.lst ((nums a c).map V.int))=H2 at s2 ⊢;refine ak (ah.of (s2 _ _ hp)) rfl (ak (ah.of (s2 _ _ bU)) rfl ?_);rfl';refine⟨a7,λt' SU=>⟨⟨_,ah.of ax⟩,Eu ax (λx H Q h=>?_) (λx H Q h=>?_) λl' pQ=>?_⟩⟩
 .rfl';exact GJ (Q:=λk=>Q k H) h
 .rfl';exact h
 refine⟨l',rfl,nums b d,ai.of ax,?_⟩;rw[Oi];have s3:=s2.trans ((au (o:=.tup [ev b,ev d]) SU).trans (au (o:=.lst ((nums b d).map V.int)) pQ));generalize upd (upd H2 t' (.tup [ev b,ev d])) l' (.lst ((nums b d).map V.int))=H3 at s3 ⊢;refine⟨_,_,rfl,?_⟩;cases hc:aW (dt a c) (dw b d) with
 | true =>
  rfl';exact q _ _ s3 ⟨λ_=>rfl,λz=>nomatch hc.symm.trans z⟩
 | false =>
  rfl';exact⟨a7,λp' c6=>q _ _ (s3.trans (au c6)) ⟨λz=>(nomatch hc.symm.trans z),λ_=>aK.new⟩⟩
def df(e t u d m:Int):Prop:=(1<=e/\e<=7)/\(1<=t/\t<=12)/\0<=u/\0<=d/\0<=m/\m<=e
noncomputable def vI(e t u d m:Int)(p:YC):List (Str × V):=[("eyes",.int e),("turns",.int t),("up",.int u),("down",.int d),("most",.int m),("told",.ref p)]
inductive SV(B C:YC)(vs:List V)(H:Hp)(Q:VK)(E:XK):Prop
 | mk(x dx:YC)(e t u d m:Int)(_:vs=[.ref x,.int e,.int t,.int u,.int d,.int m])(_:H x=some (.ins B dx []))(_:(¬ df e t u d m->E (.ref C) none H))(_:(df e t u d m->∀ p H',H p=none->SameBut x H H'->H' x=some (.ins B dx (vI e t u d m p))->H' p=some (.dT [])->Q .non H'))
theorem SW(T:Tx K mg):Om P w mg base 1 T.nj (SV T.aL T.l5):=by
 refine m5 Ht ?_;rintro _ _ _ _ H _ _ E _ ⟨x,dx,e,t,u,d,m,rfl,hx,q0,q⟩;refine⟨_,(ar (aI (PW.pt (bZ (bR (ze eF eF af (aa 1) (yj T.SN rfl))) (dJ (bR (ze eF eF af (aa 2) (yj T.SO rfl)))))) (aw (iE iF rfl T.AR T.sY rfl (ae ba ag))) aH)
  (ar (aI (PW.pt (bZ (lN (aa 3) af) (dJ (lN (aa 4) af)))) (aw (iE iF rfl T.AR T.sY rfl (ae ba ag))) aH)
  (ar (aI (bR (ze eF eF af (aa 5) (aa 1))) (aw (iE iF rfl T.AR T.sY rfl (ae ba ag))) aH)
  (ar (jR (aa 0) (aa 1) rfl)
  (ar (jR (aa 0) (aa 2) rfl)
  (ar (jR (aa 0) (aa 3) rfl)
  (ar (jR (aa 0) (aa 4) rfl)
  (ar (jR (aa 0) (aa 5) rfl)
  (aw (jR (aa 0) Fc rfl)))))))))),?_⟩
 rfl';have no:∀ D σ,¬ df e t u d m->∀ x,xo T.l5 E (t6 (tC (.str x)) qg) D σ H:=λD σ z x=>⟨by show 1<=YR;decide,q0 z⟩
 refine aN (λh1=>aN (λh2=>?_) λh2=>no _ _ (λz=>by unfold df at z;lia) _) λh1=>no _ _ (λz=>by unfold df at z;lia) _;refine aN (λh3=>aN (λh4=>?_) λh4=>no _ _ (λz=>by unfold df at z;lia) _) λh3=>no _ _ (λz=>by unfold df at z;lia) _;refine aN (λh5=>no _ _ (λz=>by unfold df at z;lia) _) λh5=>aN (λh6=>no _ _ (λz=>by unfold df at z;lia) _) λh6=>?_;refine aN (λh7=>aN (λh8=>?_) λh8=>no _ _ (λz=>by unfold df at z;lia) _) λh7=>no _ _ (λz=>by unfold df at z;lia) _;replace q:=q (by unfold df;lia);refine⟨_,_,_,hx,T.bG,T.sV,(by show 0<1000;decide),_,_,_,ax,T.bG,T.l8,(by show 1<1000;decide),_,_,_,ax,T.bG,T.vF,(by show 2<1000;decide),_,_,_,ax,T.bG,T.vG,(by show 3<1000;decide),_,_,_,ax,T.bG,T.sW,(by show 4<1000;decide),?_⟩;rw[jd,jd,jd,jd];intro p hp;have HZ:p≠x:=λz=>by rw[z,ax] at hp;cases hp
 refine⟨_,_,_,(au hp) _ _ ax,T.bG,T.md,(by show 5<1000;decide),q p _ (by rw[aD HZ] at hp;exact hp) (λb o hb e=>?_) ax ?_⟩
 .rw[aD hb];exact (au hp) _ _ (by rw[aD hb];exact e)
 .rw[aD HZ,ax]
structure fX(B:YC)(H:Hp)(x:YC)(e t u d m:Int)(p:YC)(kvs:List (List Key × V)):Prop where
 ob:∃ dx,H x=some (.ins B dx (vI e t u d m p))
 tb:H p=some (.dT kvs)
theorem fX.same(h:fX B H x e t u d m p kvs)(s:aj H H'):fX B H' x e t u d m p kvs:=let ⟨⟨dx,a⟩,b⟩:=h;⟨⟨dx,s _ _ a⟩,s _ _ b⟩
inductive SX(B:YC)(vs:List V)(H:Hp)(Q:VK)(aP:XK):Prop
 | mk(x p:YC)(e t u d m i:Int)(kvs:List (List Key × V))(_:vs=[.ref x,.int i])(_:fX B H x e t u d m p kvs)(_:Q (.bl (decide (0<=i/\i<e))) H)
inductive SY(B:YC)(vs:List V)(H:Hp)(Q:VK)(aP:XK):Prop
 | mk(x p:YC)(e t u d m i:Int)(kvs:List (List Key × V))(_:vs=[.ref x,.int i])(_:fX B H x e t u d m p kvs)(_:Q (.bl (decide (0<=i/\i<t))) H)
theorem S9(T:Tx K mg):Om P w mg base 1 T.lS (SX T.aL):=by
 refine o7 Hu ?_;rintro _ _ _ _ _ _ _ _ _ ⟨x,p,e,t,u,d,m,i,kvs,rfl,⟨⟨dx,hx⟩,hp⟩,q⟩;refine⟨_,(aw (aA (Cp eF wU af (aa 1) (ck rfl (aa 0) rfl)))),?_⟩;rfl';refine aN (λh1=>?_) λh1=>?_
 .refine⟨_,_,_,hx,T.bG,T.sV,_,rfl,?_⟩;rfl';rw[show decide (0<=i/\i<e)=decide (i<e) by simp[h1]] at q;exact q
 .rw[show decide (0<=i/\i<e)=false by simp[h1]] at q;exact q
theorem tf(T:Tx K mg):Om P w mg base 1 T.ie (SY T.aL):=by
 refine o7 Hv ?_;rintro _ _ _ _ _ _ _ _ _ ⟨x,p,e,t,u,d,m,i,kvs,rfl,⟨⟨dx,hx⟩,hp⟩,q⟩;refine⟨_,(aw (aA (Cp eF wU af (aa 1) (ck rfl (aa 0) rfl)))),?_⟩;rfl';refine aN (λh1=>?_) λh1=>?_
 .refine⟨_,_,_,hx,T.bG,T.l8,_,rfl,?_⟩;rfl';rw[show decide (0<=i/\i<t)=decide (i<t) by simp[h1]] at q;exact q
 .rw[show decide (0<=i/\i<t)=false by simp[h1]] at q;exact q
inductive Tc(B C:YC)(vs:List V)(H:Hp)(Q:VK)(E:XK):Prop
 | mk(x p:YC)(e t u d m i j:Int)(kvs:List (List Key × V))(_:vs=[.ref x,.int i,.int j])(_:fX B H x e t u d m p kvs)(_:(¬ ((0<=i/\i<e)/\0<=j/\j<t)->E (.ref C) none H))(_:((0<=i/\i<e)/\0<=j/\j<t->Q .non H))
theorem Td(T:Tx K mg):Om P w mg base 2 T.lV (Tc T.aL T.jU):=by
 refine m5 HC ?_;rintro _ _ _ _ _ _ _ _ hr ⟨x,p,e,t,u,d,m,i,j,kvs,rfl,hb,q0,q⟩;refine⟨_,(aw (aI (PW.pt (bZ (bR (bQ (jo (aa 0) T.bG T.Sz (S9 T) (hr.mono (by decide)) T.lS.b .nil bO (ae (aa 1) ag)))) (dJ (bR (bQ (jo (aa 0) T.bG T.sX (tf T) (hr.mono (by decide)) T.ie.b .nil bO (ae (aa 2) ag))))))) (aw (iE iF rfl T.AS T.sZ rfl (ae ba ag))) aH)),?_⟩;obtain⟨⟨dx,hx⟩,hp⟩:=id hb;rfl';refine⟨_,_,hx,rfl,x,p,e,t,u,d,m,i,kvs,rfl,hb,?_⟩;by_cases h1:0<=i/\i<e
 .rw[decide_eq_true h1];rfl';refine⟨_,_,hx,rfl,x,p,e,t,u,d,m,j,kvs,rfl,hb,?_⟩;by_cases h2:0<=j/\j<t
  .rw[decide_eq_true h2];rfl';exact q ⟨h1,h2⟩
  .rw[decide_eq_false h2];rfl';exact⟨by decide,q0 λz=>h2 z.2⟩
 .rw[decide_eq_false h1];rfl';exact⟨by decide,q0 λz=>h1 z.1⟩
inductive Te(B C:YC)(vs:List V)(H:Hp)(Q:VK)(E:XK):Prop
 | mk(x p:YC)(e t u d m i j:Int)(kvs:List (List Key × V))(_:vs=[.ref x,.int i,.int j])(_:fX B H x e t u d m p kvs)(_:(cH kvs (bB i j)=none->∀ H',aj H H'->E (.ref C) none H'))(_:(∀ v,cH kvs (bB i j)=some v->∀ H',aj H H'->Q .non H'))
theorem Tf(T:Tx K mg):Om P w mg base 1 T.lW (Te T.aL T.jU):=by
 refine m5 HD ?_;rintro _ _ _ _ _ _ _ _ hr ⟨x,p,e,t,u,d,m,i,j,kvs,rfl,hb,q0,q⟩;refine⟨_,(aw (aI (tQ (EH (eY hr) (aS (ae (aa 1) (ae (aa 2) ag))) (ck rfl (aa 0) rfl))) (aw (iE iF rfl T.AS T.sZ rfl (ae ba ag))) aH)),?_⟩;obtain⟨⟨dx,hx⟩,hp⟩:=id hb;rfl';refine⟨a7,λk hk=>⟨_,_,_,(au hk) _ _ hx,T.bG,T.md,_,rfl,p,rfl,cH kvs (bB i j),eL.t (k:=bB i j) ((au hk) _ _ hp) ax,?_⟩⟩;cases hv:cH kvs (bB i j) with
 | none=>exact⟨by decide,q0 hv _ (au hk)⟩
 | some v=>exact q v hv _ (au hk)
inductive Tg(B C:YC)(vs:List V)(H:Hp)(Q:VK)(E:XK):Prop
 | mk(x p:YC)(e t u d m i j:Int)(lo hi:En)(kvs:List (List Key × V))(_:vs=[.ref x,.int i,.int j,ev lo,ev hi])(_:fX B H x e t u d m p kvs)(_:kvs.length<1000)(_:(¬ (((0<=i/\i<e)/\0<=j/\j<t)/\aW lo hi=false)->E (.ref C) none H))(_:(((0<=i/\i<e)/\0<=j/\j<t)/\aW lo hi=false->∀ v H',SameBut p H H'->H' p=some (.dT (putK kvs (bB i j) v))->aK H' v lo hi->Q .non H'))
theorem Th(T:Tx K mg):Om P w mg base 3 T.lT (Tg T.aL T.jU):=by
 refine m5 Hw ?_;rintro _ _ _ _ _ _ _ _ hr ⟨x,p,e,t,u,d,m,i,j,lo,hi,kvs,rfl,hb,hl,q0,q⟩;refine⟨_,(ar (dS (jo (aa 0) T.bG T.SE (Td T) (hr.mono (by decide)) T.lV.b .nil cE (ae (aa 1) (ae (aa 2) ag))))
  (ar (aI (bQ (aF (HY T) hr (ae (aa 3) (ae (aa 4) ag)))) (aw (iE iF rfl T.AS T.sZ rfl (ae ba ag))) aH)
  (aw (EI (eY hr) (ck rfl (aa 0) rfl) (aS (ae (aa 1) (ae (aa 2) ag))) (aS (ae (aa 3) (ae (aa 4) ag))) rfl)))),?_⟩
 obtain⟨⟨dx,hx⟩,hp⟩:=id hb;rfl';refine⟨_,_,hx,rfl,x,p,e,t,u,d,m,i,j,kvs,rfl,hb,λz=>q0 λy=>z y.1,λbI=>?_⟩;refine⟨lo,hi,rfl,?_⟩;cases hc:aW lo hi with
 | true =>
  rfl';exact⟨by decide,q0 λz=>by rw[hc] at z;cases z.2⟩
 | false =>
  rfl';refine⟨a7,λv hv=>⟨_,_,_,(au hv) _ _ hx,T.bG,T.md,_,rfl,a7,λk hk=>?_⟩⟩;have s2:=(au (o:=.tup [ev lo,ev hi]) hv).trans (au (o:=.tup [.int i,.int j]) hk);refine⟨p,rfl,_,oB.t (k:=bB i j) (s2 _ _ hp) ax (agz hl (by decide)),q ⟨bI,hc⟩ (.ref v) _ (λb o kx e=>?_) ax ⟨v,rfl,?_⟩⟩
  .rw[aD kx];exact s2 _ _ e
  .have vp:v≠p:=λz=>by rw[z] at hv;rw[hp] at hv;cases hv
   rw[aD vp];exact (au hk) _ _ ax
inductive Ti(K:Yp)(vs:List V)(H:Hp)(Q:VK)(aP:XK):Prop
 | mk(a:YC)(ns:List Int)(k pr m:Int)(_:vs=[.ref a,.int k,.int pr,.int m])(_:ai K H a (ns.map V.int))(_:iP ns)(_:(-1000000<=k/\k<=1000000))(_:0<pr)(_:0<m)(_:∀ p:Int,0<=p->p<m->Q (.int p) H)
theorem Tj(h:iP ns)(hk : -1000000<=k/\k<=1000000):oy k k/\oy (qG ns k+k * k) 48271:=by have c:=Ov h k;have k1:Bt 64 k:=Bt.small (by lia) (by lia);have k2:Bt 128 (k * k):=k1.mul k1;have n2:Bt 64 48271:=Bt.small (by decide) (by decide);exact⟨⟨k1.up (by decide),k1.up (by decide)⟩,(c.add (k2.up (by decide))).up (by decide),n2.up (by decide)⟩
theorem cp(T:Tx K mg):Ok P w base 1 T.sy (Ti K):=by
 refine bf HE ?_;rintro _ _ _ _ _ _ _ _ _ ⟨a,ns,k,pr,m,rfl,hS,hn,hk,hpr,hm,q⟩;refine⟨_,(ar (aI (bW (aZ cV (by rfl) T.cJ cD (ae (aa 0) ag)) af) (aw (aA af)) aH)
  (aw (aA (aG o5 (aG o5 (aG GL (aG bp (aq (aa 0) (aG o5 (aa 1) (aZ cV (by rfl) T.cJ cD (ae (aa 0) ag)))) (aG GL (aa 1) (aa 1))) af) (aa 2)) (aa 3))))),?_⟩
 rfl';refine⟨_,dY hS,?_⟩;rw[Yq];have pm:=Tj hn hk;refine aN (λh=>?_) λh=>?_
 .exact q 0 (by decide) hm
 .have h:0<(ns.length:Int):=by have:ns.length≠0:=λz=>h (by rw[z];rfl);lia
  refine⟨_,dY hS,?_⟩;rw[Yq];refine⟨h,bz hS (Ow h) ?_⟩;rfl';exact⟨pm.1,pm.2,hpr,hm,q _ (afT _ (by lia)) (aeP _ hm)⟩
inductive Tn(K:Yp)(vs:List V)(H:Hp)(Q:VK)(aP:XK):Prop
 | mk(a:YC)(ns:List Int)(_:vs=[.ref a])(_:ai K H a (ns.map V.int))(_:iP ns)(_:∀ (p:Int) (H':Hp),aj H H'->Q (.int p) H')
theorem To(T:Tx K mg):Ok P w base 2 T.sA (Tn K):=by
 refine bf AL ?_;rintro _ _ _ _ _ _ _ _ hr ⟨a,ns,rfl,hS,hn,q⟩;refine⟨_,(ar (aI (bW (aZ cV (by rfl) T.cJ cD (ae (aa 0) ag)) af) (aw (aA af)) aH)
  (ar (aJ 1 AL.nd (aG o5 (aq (aa 0) af) (aG wR af af)))
  (aw (aA (aq (aS (ae af (ae (aa 1) (ae (aG da af (aa 1)) (ae (aG da (aG wR af af) (aa 1)) ag))))) (aF (cp T) hr (ae (aa 0) (ae af (ae af (ae af ag)))))))))),?_⟩
 rfl';refine⟨_,dY hS,?_⟩;rw[Yq];refine aN (λh=>q _ _ (aj.refl _)) λh=>?_;have h:0<(ns.length:Int):=by have:ns.length≠0:=λz=>h (by rw[z];rfl);lia
 have h0:cC (ns.map V.int) 0=some (.int (ns.getD 0 0)):=cZ (j:=0) (by rw[YG,Yr,Ys (by lia)];rfl);refine bz hS h0 ?_;rfl';refine⟨⟨by decide,by decide,by decide⟩,⟨by decide,by decide,by decide⟩,by decide,λt ht=>?_⟩;refine⟨a,ns,_,_,_,rfl,(au ht).seq hS,hn,by lia,by lia,by lia,λp p1 p2=>?_⟩;rcases (by lia:p=0∨p=1∨p=2∨p=3) with rfl|rfl|rfl|rfl
 all_goals exact ak (ah.of ax) rfl (q _ _ (au ht))
inductive Tp(K:Yp)(vs:List V)(H:Hp)(Q:VK)(aP:XK):Prop
 | mk(p:YC)(lo hi:En)(n:Int)(_:vs=[.ref p,.int n])(_:ah K H p [ev lo,ev hi])(_:Q (.bl (hold lo hi n)) H)
theorem Ia(T:Tx K mg):Ok P w base 1 T.sC (Tp K):=by
 refine bf HG ?_;rintro _ _ _ _ H _ Q _ _ ⟨p,lo,hi,n,rfl,hp,q⟩;refine⟨_,(aw (aA (eR (G0 (kZ (pV (aq (aa 0) af))) (ft (eG (iV eF) (aq (aa 0) af) (aa 1) (cB _)))) (ft (G0 (kZ (pV (aq (aa 0) af))) (ft (eG (iV eF) (aa 1) (aq (aa 0) af) (cB _)))))))),?_⟩;rcases lo with _|lo<;>rcases hi with _|hi
 all_goals simp only[uE,uF] at hp
 all_goals
  rfl'
  repeat' first
  | refine ak hp rfl ?_
  | (walk_at "p")
  | (refine aN (λhc=>?_) λhc=>?_)
 all_goals first
  | exact q
  | exact (congrArg (λb=>Q (V.bl b) H) (show hold _ _ n=_ by rw[aba,uG];simp<;>lia)).mp q
inductive Tq(K:Yp)(vs:List V)(H:Hp)(Q:VK)(aP:XK):Prop
 | mk(p:YC)(lo hi:En)(_:vs=[.ref p])(_:ah K H p [ev lo,ev hi])(_:Q (.bl (aW lo hi)) H)
theorem AZ(T:Tx K mg):Ok P w base 1 T.i5 (Tq K):=by
 refine bf HI ?_;rintro _ _ _ _ _ _ _ _ _ ⟨p,lo,hi,rfl,hp,q⟩;refine⟨_,(aw (aA (eR (kZ (pW (aq (aa 0) af))) (eR (kZ (pW (aq (aa 0) af))) (ft (eG (iV qe) (aq (aa 0) af) (aq (aa 0) af) (cB _))))))),?_⟩;rcases lo with _|lo<;>rcases hi with _|hi
 all_goals simp only[uE,uF] at hp
 all_goals
  rfl'
  repeat' first
  | exact q
  | refine ak hp rfl ?_
  | (walk_at "p")
structure mf(e t u d m f:Int):Prop where
 he:1<=e/\e<=7
 ht:1<=t/\t<=12
 het:(e<=3/\t<=4)∨(e<=7/\t<=2)∨(e<=2/\t<=12)
 hu:0<=u/\u<=13
 hd:0<=d/\d<=13
 hm:0<=m/\m<=e
 hf:1<=f/\f<=1000000000000000000000000000000
noncomputable def nu(e t u d m f:Int):List V:=[.int e,.int t,.int u,.int d,.int m,.int f]
inductive Tr(K:Yp)(vs:List V)(H:Hp)(Q:VK)(aP:XK):Prop
 | mk(a:YC)(ns:List Int)(_:vs=[.ref a])(_:ai K H a (ns.map V.int))(_:iP ns)(_:∀ (r:YC) (e t u d m f:Int) (H':Hp),aj H H'->H' r=some (.tup (nu e t u d m f))->mf e t u d m f->Q (.ref r) H')
def Ib(e t:Int):Prop:=(1<=e/\1<=t)/\((e<=3/\t<=4)∨(e<=7/\t<=2)∨(e<=2/\t<=12))
theorem Ts(T:Tx K mg):Ok P w base 2 T.sD (Tr K):=by
 refine bf fU ?_;rintro _ _ _ _ H _ _ _ hr ⟨a,ns,rfl,hS,hn,q⟩;refine⟨_,(ar (aJ 1 fU.nd (aF (cp T) hr (ae (aa 0) (ae af (ae af (ae af ag))))))
  (ar (aJ 2 fU.nd (aG bp af (aF (cp T) hr (ae (aa 0) (ae af (ae af (ae af ag)))))))
  (ar (aJ 3 fU.nd (aG bp af (aF (cp T) hr (ae (aa 0) (ae af (ae af (ae af ag)))))))
  (ar (aI (bW (aa 1) af) (ar (aJ 2 fU.nd af)
    (aw (aJ 3 fU.nd af))) aH)
  (ar (aI (bW (aa 1) af) (ar (aJ 2 fU.nd af)
    (aw (aJ 3 fU.nd af))) aH)
  (ar (aJ 4 fU.nd (aq (aS (ae af (ae af (ae af (ae (aG wR af af) ag))))) (aF (cp T) hr (ae (aa 0) (ae af (ae af (ae af ag)))))))
  (ar (aJ 5 fU.nd (aF (cp T) hr (ae (aa 0) (ae af (ae af (ae af ag))))))
  (ar (aJ 6 fU.nd (aF (cp T) hr (ae (aa 0) (ae af (ae af (ae af ag))))))
  (ar (aI (bW (aa 1) af) (ar (aJ 5 fU.nd af)
    (aw (aJ 6 fU.nd af))) aH)
  (aw (aA (aS (ae (aa 2) (ae (aa 3) (ae (aa 5) (ae (aa 6) (ae (aZ (wW rfl) (by rfl) T.sR qp (ae (aa 2) (ae (aF (cp T) hr (ae (aa 0) (ae af (ae af (ae af ag))))) ag))) (ae (aa 4) ag)))))))))))))))))),?_⟩
 refine aC (λσ H1=>∃ w:Int,σ=[some (.ref a),some (.int w),none,none,none,none,none]/\H1=H) (λN hN=>?_) ?_
 .rfl';refine⟨a,ns,_,_,_,rfl,hS,hn,by lia,by lia,by lia,λp p1 p2=>?_⟩;rfl';exact hN _ _ ⟨_,rfl,rfl⟩
 rintro _ yR σ H1 ⟨w,rfl,rfl⟩;subst yR;refine aC (λσ H2=>∃ e:Int,σ=[some (.ref a),some (.int w),some (.int e),none,none,none,none]/\H2=H1/\1<=e/\e<=3) (λN hN=>?_) ?_
 .rfl';refine⟨a,ns,_,_,_,rfl,hS,hn,by lia,by lia,by lia,λp p1 p2=>?_⟩;rfl';exact hN _ _ ⟨_,rfl,rfl,by lia,by lia⟩
 rintro _ yR σ H ⟨e,rfl,rfl,e1,e2⟩;subst yR;refine aC (λσ H2=>∃ t:Int,σ=[some (.ref a),some (.int w),some (.int e),some (.int t),none,none,none]/\H2=H/\1<=t/\t<=4) (λN hN=>?_) ?_
 .rfl';refine⟨a,ns,_,_,_,rfl,hS,hn,by lia,by lia,by lia,λp p1 p2=>?_⟩;rfl';exact hN _ _ ⟨_,rfl,rfl,by lia,by lia⟩
 rintro _ yR σ H1 ⟨t,rfl,rfl,t1,t2⟩;subst yR;refine aC (λσ H2=>∃ e t:Int,σ=[some (.ref a),some (.int w),some (.int e),some (.int t),none,none,none]/\H2=H1/\Ib e t) (λN hN=>?_) ?_
 .rfl';exact aN (λ_=>hN _ _ ⟨7,2,rfl,rfl,by decide,.inr (.inl (by decide))⟩) λ_=>hN _ _ ⟨e,t,rfl,rfl,⟨e1,t1⟩,.inl ⟨e2,t2⟩⟩
 rintro _ yR σ H ⟨e,t,rfl,rfl,hE⟩;subst yR;refine aC (λσ H2=>∃ e t:Int,σ=[some (.ref a),some (.int w),some (.int e),some (.int t),none,none,none]/\H2=H/\Ib e t) (λN hN=>?_) ?_
 .rfl';exact aN (λ_=>hN _ _ ⟨2,12,rfl,rfl,by decide,.inr (.inr (by decide))⟩) λ_=>hN _ _ ⟨e,t,rfl,rfl,hE⟩
 rintro _ yR σ H1 ⟨e,t,rfl,rfl,⟨e1,t1⟩,hE⟩;subst yR;refine aC (λσ H2=>∃ f:Int,σ=[some (.ref a),some (.int w),some (.int e),some (.int t),some (.int f),none,none]/\aj H1 H2/\1<=f/\f<=1000000000000000000000000000000) (λN hN=>?_) ?_
 .rfl';refine⟨⟨by decide,by decide,by decide⟩,by decide,λl hl=>?_⟩;refine⟨a,ns,_,_,_,rfl,(au hl).seq hS,hn,by lia,by lia,by lia,λp p1 p2=>?_⟩;rcases (by lia:p=0∨p=1∨p=2∨p=3) with rfl|rfl|rfl|rfl
  all_goals exact ak (ah.of ax) rfl (hN _ _ ⟨_,rfl,au hl,by decide,by decide⟩)
 rintro _ yR σ H2 ⟨f,rfl,s2,f1,f2⟩;subst yR;refine aC (λσ H3=>∃ u:Int,σ=[some (.ref a),some (.int w),some (.int e),some (.int t),some (.int f),some (.int u),none]/\H3=H2/\0<=u/\u<=13) (λN hN=>?_) ?_
 .rfl';refine⟨a,ns,_,_,_,rfl,s2.seq hS,hn,by lia,by lia,by lia,λp p1 p2=>?_⟩;rfl';exact hN _ _ ⟨_,rfl,rfl,by lia,by lia⟩
 rintro _ yR σ H3 ⟨u,rfl,rfl,hu⟩;subst yR;refine aC (λσ H4=>∃ d:Int,σ=[some (.ref a),some (.int w),some (.int e),some (.int t),some (.int f),some (.int u),some (.int d)]/\H4=H3/\0<=d/\d<=13) (λN hN=>?_) ?_
 .rfl';refine⟨a,ns,_,_,_,rfl,s2.seq hS,hn,by lia,by lia,by lia,λp p1 p2=>?_⟩;rfl';exact hN _ _ ⟨_,rfl,rfl,by lia,by lia⟩
 rintro _ yR σ H4 ⟨d,rfl,rfl,hd⟩;subst yR;refine aC (λσ H5=>∃ u d:Int,σ=[some (.ref a),some (.int w),some (.int e),some (.int t),some (.int f),some (.int u),some (.int d)]/\H5=H4/\(0<=u/\u<=13)/\0<=d/\d<=13) (λN hN=>?_) ?_
 .rfl';exact aN (λ_=>hN _ _ ⟨0,0,rfl,rfl,by decide,by decide⟩) λ_=>hN _ _ ⟨u,d,rfl,rfl,hu,hd⟩
 rintro _ yR σ H5 ⟨u,d,rfl,rfl,hu,hd⟩;subst yR;rfl';refine⟨a,ns,_,_,_,rfl,s2.seq hS,hn,by lia,by lia,by lia,λp p1 p2=>?_⟩;rfl';refine⟨by decide,λr hr=>q r e t u d _ f _ (s2.trans (au hr)) ax ⟨by lia,by lia,hE,hu,hd,?_,f1,f2⟩⟩;split<;>lia
def tj(u d:Int)(cs:List Int):Prop:=∀ i,i+1<cs.length->-d<=cs.getD (i+1) 0-cs.getD i 0/\cs.getD (i+1) 0-cs.getD i 0<=u
theorem tj.snoc(h:tj u d (cs++[n]))(h1 : -d<=k-n)(h2:k-n<=u):tj u d (cs++[n]++[k]):=by
 intro i hi;rw[YO,YO,YY,YY] at hi;by_cases e:i+1<(cs++[n]).length
 .have:=h i e;simp only[Yr] at this ⊢;rw[Zl (l₁:=cs++[n]) e,Zl (l₁:=cs++[n]) (by lia)];exact this
 .rw[YO,YY] at e;have ei:i=cs.length:=by lia
  subst ei;have a1:(cs++[n]++[k])[cs.length+1]?=some k:=by simp
  have a2:(cs++[n]++[k])[cs.length]?=some n:=by simp
  simp only[Yr,a1,a2,abx];exact⟨h1,h2⟩
inductive Tt(K:Yp)(vs:List V)(H:Hp)(Q:VK)(aP:XK):Prop
 | mk(a b:YC)(ns:List Int)(e t u d m f n:Int)(_:vs=[.ref a,.ref b,.int n])(_:ai K H a (ns.map V.int))(_:iP ns)(_:ah K H b (nu e t u d m f))(_:mf e t u d m f)(_:∀ (l:YC) (cs:List Int) (H':Hp),aj H H'->H l=none->H' l=some (.lst (cs.map V.int))->cs.length=t.toNat->tj (f * u) (f * d) cs->Q (.ref l) H')
inductive Ic(H:Hp)(a b l:YC)(u d f n:Int)(i:Nat)(σ:St)(H1:Hp):Prop
 | mk(cs:List Int)(y:Int)(d4 d5:Option V)(_:σ=[some (.ref a),some (.ref b),some (.int n),some (.ref l),d4,d5])(_:aj H H1)(_:H1 l=some (.lst ((cs++[y]).map V.int)))(_:cs.length=i)(_:tj (f * u) (f * d) (cs++[y]))
theorem Tu(T:Tx K mg):Ok P w base 2 T.sE (Tt K):=by
 refine bf rF ?_;rintro _ _ _ _ H _ _ _ hr ⟨a,b,ns,e,t,u,d,m,f,n,rfl,hS,hn,hb,sh,q⟩;refine⟨_,(ar (aJ 3 rF.nd (cX (ae (aa 2) ag)))
  (ar (cu Zd rfl (j9 rfl T.cQ (ae af (ae (aq (aa 1) af) ag))) (bX 4 rF.nd) (ar (aJ 5 rF.nd (aG da (aF (cp T) hr (ae (aa 0) (ae (aG bp af (aa 4)) (ae af (ae (aG bp (aG bp (aq (aa 1) af) (aq (aa 1) af)) af) ag))))) (aq (aa 1) af)))
    (aw (dS (ju Zk ZX ZY nV (aa 3) (ae (aG bp (aq (aa 3) (gL hU af)) (aG kL (aq (aa 1) af) (aa 5))) ag))))))
  (aw (aA (aa 3))))),?_⟩
 obtain⟨-,⟨t1,t2⟩,-,⟨u1,u2⟩,⟨d1,d2⟩,-,f1,f2⟩:=id sh;refine aC (λσ H1=>∃ l,σ=[some (.ref a),some (.ref b),some (.int n),some (.ref l),none,none]/\aj H H1/\H l=none/\H1 l=some (.lst ([n].map V.int))) (λN hN=>?_) ?_
 .rfl';exact⟨by decide,λl hl=>hN _ _ ⟨l,rfl,au hl,hl,ax⟩⟩
 rintro _ yR σ H1 ⟨l,rfl,s1,f0,hl⟩;subst yR;refine aC (Ic H a b l u d f n (t-1).toNat) (λN hN=>?_) ?_
 .rfl';refine ak (dN s1 hb) (v:=.int t) rfl ?_;rfl';refine⟨by lia,by lia,iD (Ic H a b l u d f n) ⟨[],n,_,_,rfl,s1,hl,rfl,λk h=>absurd h (by show ¬ k+1<1;lia)⟩ ?_ (λσ H' h=>hN _ _ h)⟩;rintro i σ H2 hi ⟨cs,y,d4,d5,rfl,s2,bA,bq,cn⟩;rfl';refine ak (dN s2 hb) (v:=.int u) rfl (ak (dN s2 hb) (v:=.int d) rfl ?_);rfl';refine⟨a,ns,_,_,_,rfl,s2.seq hS,hn,by lia,by lia,by lia,λp p1 p2=>?_⟩;rfl';refine ak (dN s2 hb) (v:=.int d) rfl ?_;rfl';refine⟨.inl ⟨rfl,_,ai.of bA⟩,bz (ai.of bA) (v:=.int y) (by rw[Z1];exact xb _ _) (ak (dN s2 hb) (v:=.int f) rfl ?_)⟩;rfl';have m1:=acm (show p-d<=u by lia) (show 0<=f by lia);have m2:=acm (show -d<=p-d by lia) (show 0<=f by lia);rw[Int.mul_neg] at m2;refine⟨mL (by lia) (by lia),_,bA,ZE (by rw[Yq,YO,bq];show i+1<=20;lia:_<=20) (by decide),cs++[y],y+f * (p-d),_,_,rfl,jw f0 s2,?_,by rw[YO,bq];rfl,cn.snoc (by lia) (by lia)⟩;rw[ax,Z1 (l₁:=cs++[y])];rfl
 rintro _ yR σ H2 ⟨cs,y,d4,d5,rfl,s2,bA,bq,cn⟩;subst yR;rfl';exact q l _ H2 s2 f0 bA (by rw[YO,bq];show (t-1).toNat+1=_;lia) cn
inductive Tv(K:Yp)(vs:List V)(H:Hp)(Q:VK)(aP:XK):Prop
 | mk(a:YC)(ns:List Int)(k n f:Int)(_:vs=[.ref a,.int k,.int n,.int f])(_:ai K H a (ns.map V.int))(_:iP ns)(_:(-900000<=k/\k<=900000))(_:(1<=f/\f<=1000000000000000000000000000000))(_:∀ (p:YC) (lo hi:En) (H':Hp),aj H H'->H' p=some (.tup [ev lo,ev hi])->aW lo hi=false->hold lo hi n=true->Q (.ref p) H')
inductive A0(H:Hp)(a:YC)(k n f:Int)(σ:St)(H1:Hp):Prop
 | mk(lo hi:En)(o:Int)(_:σ=[some (.ref a),some (.int k),some (.int n),some (.int f),some (ev lo),some (ev hi),some (.int o)])(_:H1=H)(_:bD (lo,hi) n)
theorem Tw(T:Tx K mg):Ok P w base 2 T.sF (Tv K):=by
 refine bf nh ?_;rintro _ _ _ _ H _ _ _ hr ⟨a,ns,k,n,f,rfl,hS,hn,hk,⟨f1,f2⟩,q⟩;refine⟨_,(ar (aJ 4 nh.nd (aG da (aG da (aa 2) (aG kL (aa 3) (aF (cp T) hr (ae (aa 0) (ae (aa 1) (ae af (ae af ag))))))) (aF (cp T) hr (ae (aa 0) (ae (aa 1) (ae af (ae af ag)))))))
  (ar (aJ 5 nh.nd (aG bp (aa 2) (aG kL (aa 3) (aF (cp T) hr (ae (aa 0) (ae (aa 1) (ae af (ae af ag))))))))
  (ar (aJ 6 nh.nd (aF (cp T) hr (ae (aa 0) (ae (aa 1) (ae af (ae af ag))))))
  (ar (aI (bW (aa 6) af) (aw (aJ 4 nh.nd bH)) aH)
  (ar (aI (bW (aa 6) af) (aw (aJ 5 nh.nd bH)) aH)
  (aw (aA (aS (ae (aa 4) (ae (aa 5) ag)))))))))),?_⟩
 refine aC (λσ H1=>∃ lo:Int,σ=[some (.ref a),some (.int k),some (.int n),some (.int f),some (.int lo),none,none]/\H1=H/\lo<=n) (λN hN=>?_) ?_
 .rfl';refine⟨a,ns,_,_,_,rfl,hS,hn,by lia,by lia,by lia,λp p1 p2=>?_⟩;rfl';have:=aa4 (show 0<=f by lia) p1;refine⟨mL (by lia) (by lia),?_⟩;refine⟨a,ns,_,_,_,rfl,hS,hn,by lia,by lia,by lia,λr r1 r2=>?_⟩;rfl';exact hN _ _ ⟨_,rfl,rfl,by lia⟩
 rintro _ yR σ H1 ⟨lo,rfl,rfl,h1⟩;subst yR;refine aC (λσ H2=>∃ hi:Int,σ=[some (.ref a),some (.int k),some (.int n),some (.int f),some (.int lo),some (.int hi),none]/\H2=H1/\n<=hi) (λN hN=>?_) ?_
 .rfl';refine⟨a,ns,_,_,_,rfl,hS,hn,by lia,by lia,by lia,λp p1 p2=>?_⟩;rfl';have:=aa4 (show 0<=f by lia) p1;exact⟨mL (by lia) (by lia),hN _ _ ⟨_,rfl,rfl,by lia⟩⟩
 rintro _ yR σ H ⟨hi,rfl,rfl,h2⟩;subst yR;refine aC (A0 H a k n f) (λN hN=>?_) ?_
 .rfl';refine⟨a,ns,_,_,_,rfl,hS,hn,by lia,by lia,by lia,λp p1 p2=>?_⟩;rfl';exact hN _ _ ⟨some lo,some hi,p,rfl,rfl,λx z=>by cases z;exact h1,λy z=>by cases z;exact h2⟩
 rintro _ yR σ H1 ⟨lo,hi,o,rfl,rfl,bI⟩;subst yR;refine aC (A0 H1 a k n f) (λN hN=>?_) ?_
 .rfl';exact aN (λ_=>hN _ _ ⟨none,hi,o,rfl,rfl,λx z=>(nomatch z),bI.2⟩) λ_=>hN _ _ ⟨lo,hi,o,rfl,rfl,bI⟩
 rintro _ yR σ H ⟨lo,hi,o,rfl,rfl,bI⟩;subst yR;refine aC (A0 H a k n f) (λN hN=>?_) ?_
 .rfl';exact aN (λ_=>hN _ _ ⟨lo,none,o,rfl,rfl,bI.1,λx z=>(nomatch z)⟩) λ_=>hN _ _ ⟨lo,hi,o,rfl,rfl,bI⟩
 rintro _ yR σ H1 ⟨lo,hi,o,rfl,rfl,bI⟩;subst yR;rfl';refine⟨a7,λp hp=>q p lo hi _ (au hp) ax ?_ (yn.mp bI)⟩;rcases lo with _|x<;>rcases hi with _|y
 .rfl
 .rfl
 .rfl
 .have h1:=bI.1 x rfl;have h2:=bI.2 y rfl;simp only[aW];exact decide_eq_false (by lia)
theorem Tz(h:r∈gv tb s w):r∈tb∨r.2=w:=by
 unfold gv at h;split at h
 .obtain⟨x,hx,rfl⟩:=YI.mp h;by_cases e:x.1=s
  .rw[if_pos e];exact .inr rfl
  .rw[if_neg e];exact .inl hx
 .rcases Y3.mp h with z|z
  .exact .inl z
  .rw[Zc.mp z];exact .inr rfl
inductive fB(H:Hp)(v:V)(w:YC)(e t u d m:Int)(tb:Tb):Prop
 | mk(r:YC)(_:v = .ref r)(_:H r=some (.tup [.int e,.int t,.int u,.int d,.int m,.ref w]))(_:TabAt H w tb)
theorem fB.same(h:fB H v w e t u d m tb)(s:aj H H'):fB H' v w e t u d m tb:=let ⟨r,e,a,b⟩:=h;⟨r,e,s _ _ a,b.same s⟩
inductive Ie(H:Hp)(e t:Int)(q:YC)(n:Int)(H1:Hp):Prop
 | mk(tb:Tb)(_:aj H H1)(_:H q=none)(_:TabAt H1 q tb)(_:bV e t tb)(_:(tb.length:Int)<=n)(_:∀ r∈tb,aW r.2.1 r.2.2=false)
inductive TC(K:Yp)(vs:List V)(H:Hp)(Q:VK)(aP:XK):Prop
 | mk(a b c:YC)(ns cs:List Int)(e t u d m f:Int)(_:vs=[.ref a,.ref b,.ref c])(_:ai K H a (ns.map V.int))(_:iP ns)(_:ah K H b (nu e t u d m f))(_:mf e t u d m f)(_:ai K H c (cs.map V.int))(_:cs.length=t.toNat)(_:∀ (v:V) (w:YC) (tb:Tb) (H':Hp),aj H H'->H w=none->fB H' v w e t (f * u) (f * d) m tb->bV e t tb->tb.length<=24->(∀ r∈tb,aW r.2.1 r.2.2=false)->Q v H')
def A1(σ0:Option V->Option V->Option V->Option V->Option V->St)(H:Hp)(e t:Int)(q:YC)(n:Nat->Int)(i:Nat)(σ:St)(H1:Hp):Prop:=∃ e1 e2 e3 e4 e5,σ=σ0 e1 e2 e3 e4 e5/\Ie H e t q (n i) H1
theorem Ig(h:mf e t u d m f):e * t<=24:=by
 obtain⟨he,ht,h,-⟩:=h;rcases h with ⟨h1,h2⟩|⟨h1,h2⟩|⟨h1,h2⟩
 .exact abK (ac3 h1 h2 (by lia) (by decide)) (by decide)
 .exact abK (ac3 h1 h2 (by lia) (by decide)) (by decide)
 .exact ac3 h1 h2 (by lia) (by decide)
theorem TF(T:Tx K mg):Ok P w base 3 T.sG (TC K):=by
 refine bf iW ?_;rintro _ _ _ s H _ _ _ hr ⟨a,b,c,ns,cs,e,t,u,d,m,f,rfl,hS,hn,hb,sh,hc,bq,q⟩;refine⟨_,(ar (aJ 3 iW.nd Fc)
  (ar (aJ 4 iW.nd (aF (cp T) hr (ae (aa 0) (ae af (ae af (ae (aG bp (aq (aa 1) af) af) ag))))))
  (ar (cu Zd rfl (fH rfl T.cQ (ae (aq (aa 1) af) ag)) (bX 5 iW.nd) (aw (cu Zd rfl (fH rfl T.cQ (ae (aq (aa 1) af) ag)) (bX 6 iW.nd) (ar (aJ 7 iW.nd (aG bp (aG bp af (aG kL af (aa 5))) (aa 6)))
    (ar (aJ 8 iW.nd (aq (aa 2) (aa 6)))
    (ar (aI (lN (aG o5 (aG bp (aa 5) (aF (cp T) hr (ae (aa 0) (ae af (ae af (ae af ag)))))) (aq (aa 1) af)) (aa 4)) (aw (aJ 8 iW.nd (aG bp (aa 8) (aG kL (aq (aa 1) af) (aG da (aF (cp T) hr (ae (aa 0) (ae (aa 7) (ae af (ae af ag))))) af))))) aH)
    (ar (aJ 9 iW.nd (eG nR (aF (cp T) hr (ae (aa 0) (ae (aa 7) (ae af (ae af ag))))) af (cB _)))
    (ar (aI (bW (aq (aa 1) af) af) (aw (aJ 9 iW.nd (eG (iV qe) (aG o5 (aG bp (aG bp (aa 5) (aa 6)) (aF (cp T) hr (ae (aa 0) (ae af (ae af (ae af ag)))))) af) af (cB _)))) aH)
    (aw (aI (bR (bQ (aa 9))) (aw (EI (eY hr) (aa 3) (aS (ae (aa 5) (ae (aa 6) ag))) (aF (Tw T) hr (ae (aa 0) (ae (aa 7) (ae (aa 8) (ae (aq (aa 1) af) ag))))) rfl)) aH))))))))))
  (aw (aA (aS (ae (aq (aa 1) af) (ae (aq (aa 1) af) (ae (aG kL (aq (aa 1) af) (aq (aa 1) af)) (ae (aG kL (aq (aa 1) af) (aq (aa 1) af)) (ae (aq (aa 1) af) (ae (aa 3) ag)))))))))))),?_⟩
 obtain⟨⟨e1,e2⟩,⟨t1,t2⟩,-,⟨u1,u2⟩,⟨d1,d2⟩,⟨m1,m2⟩,hf⟩:=id sh;have et:=Ig sh;refine aC (λσ H1=>∃ w,σ=[some (.ref a),some (.ref b),some (.ref c),some (.ref w),none,none,none,none,none,none]/\Ie H e t w 0 H1) (λN hN=>?_) ?_
 .rfl';exact λw ik=>hN _ _ ⟨w,rfl,[],au ik,ik,⟨[],ax,trivial⟩,bV.nil,Zv _,λ_ h=>(nomatch h)⟩
 rintro _ yR σ H1 ⟨w,rfl,hw⟩;subst yR;obtain⟨_,s1,_⟩:=id hw;refine aC (λσ H2=>∃ wr:Int,σ=[some (.ref a),some (.ref b),some (.ref c),some (.ref w),some (.int wr),none,none,none,none,none]/\H2=H1) (λN hN=>?_) ?_
 .rfl';refine ak (dN s1 hb) (v:=.int m) rfl ?_;rfl';refine⟨a,ns,_,_,_,rfl,s1.seq hS,hn,by lia,by lia,by lia,λp p1 p2=>?_⟩;exact hN _ _ ⟨_,rfl,rfl⟩
 rintro _ yR σ H2 ⟨wr,rfl,rfl⟩;subst yR;refine aC (A1 (λe1 e2 e3 e4 e5=>[some (.ref a),some (.ref b),some (.ref c),some (.ref w),some (.int wr),e1,e2,e3,e4,e5]) H e t w (λ_=>e * t) 0) (λN hN=>?_) ?_
 .rfl';refine ak (dN s1 hb) (v:=.int e) rfl ?_;rfl';refine⟨by lia,by lia,iD (A1 (λe1 e2 e3 e4 e5=>[some (.ref a),some (.ref b),some (.ref c),some (.ref w),some (.int wr),e1,e2,e3,e4,e5]) H e t w λi=>(i:Int) * t) ⟨_,_,_,_,_,rfl,by simpa using hw⟩ ?_ (λσ H' h=>hN _ _ ?_)⟩
  .rintro i σ H5 hi ⟨e1,e2,e3,e4,e5,rfl,Ih⟩;obtain⟨_,s5,_⟩:=id Ih;rfl';refine ak (dN s5 hb) (v:=.int t) rfl ?_;rfl';refine⟨by lia,by lia,iD (A1 (λe2 e3 e4 e5 _=>[some (.ref a),some (.ref b),some (.ref c),some (.ref w),some (.int wr),some (.int (0+(i:Int))),e2,e3,e4,e5]) H e t w λj=>(i:Int) * t+j) ⟨_,_,_,_,none,rfl,by simpa using Ih⟩ ?_ ?_⟩
   .rintro j σ H6 hj ⟨e2,e3,e4,e5,_,rfl,TH⟩;obtain⟨tb,s6,ik,⟨kvs,hk,hT⟩,ay,i9,dA⟩:=id TH;have bi:(i:Int)<e:=by lia
    have bj:(j:Int)<t:=by lia
    have tl:=hT.len;show tS _ _ _ _ _;refine aC (λσ H7=>∃ kk:Int,σ=[some (.ref a),some (.ref b),some (.ref c),some (.ref w),some (.int wr),some (.int (0+(i:Int))),some (.int (0+(j:Int))),some (.int kk),e4,e5]/\H7=H6/\0<=kk/\kk<=1000) (λN hN=>?_) ?_
    .rfl';exact⟨mL (by lia) (by lia),hN _ _ ⟨_,rfl,rfl,by lia,by lia⟩⟩
    rintro _ yR σ H7 ⟨kk,rfl,rfl,k1,k2⟩;subst yR;refine aC (λσ H8=>∃ nn:Int,σ=[some (.ref a),some (.ref b),some (.ref c),some (.ref w),some (.int wr),some (.int (0+(i:Int))),some (.int (0+(j:Int))),some (.int kk),some (.int nn),e5]/\H8=H7) (λN hN=>?_) ?_
    .rfl';exact bz (s6.seq hc) (int_at (by lia) (by lia)) (hN _ _ ⟨_,rfl,rfl⟩)
    rintro _ yR σ H6 ⟨nn,rfl,rfl⟩;subst yR;refine aC (λσ H8=>∃ nn:Int,σ=[some (.ref a),some (.ref b),some (.ref c),some (.ref w),some (.int wr),some (.int (0+(i:Int))),some (.int (0+(j:Int))),some (.int kk),some (.int nn),e5]/\H8=H6) (λN hN=>?_) ?_
    .rfl';refine⟨a,ns,_,_,_,rfl,s6.seq hS,hn,by lia,by lia,by lia,λp p1 p2=>?_⟩;rfl';refine ak (dN s6 hb) (v:=.int e) rfl ?_;rfl';refine⟨by lia,aN (λ_=>?_) λ_=>hN _ _ ⟨nn,rfl,rfl⟩⟩;refine ak (dN s6 hb) (v:=.int f) rfl ?_;refine⟨a,ns,_,_,_,rfl,s6.seq hS,hn,by lia,by lia,by lia,λr r1 r2=>?_⟩;rfl';exact⟨mL (by lia) (by lia),hN _ _ ⟨_,rfl,rfl⟩⟩
    rintro _ yR σ H7 ⟨nn,rfl,rfl⟩;subst yR;refine aC (λσ H8=>∃ o:Bool,σ=[some (.ref a),some (.ref b),some (.ref c),some (.ref w),some (.int wr),some (.int (0+(i:Int))),some (.int (0+(j:Int))),some (.int kk),some (.int nn),some (.bl o)]/\H8=H7) (λN hN=>?_) ?_
    .rfl';refine⟨a,ns,_,_,_,rfl,s6.seq hS,hn,by lia,by lia,by lia,λp p1 p2=>?_⟩;rfl';exact hN _ _ ⟨_,rfl,rfl⟩
    rintro _ yR σ H6 ⟨o,rfl,rfl⟩;subst yR;refine aC (λσ H8=>∃ o:Bool,σ=[some (.ref a),some (.ref b),some (.ref c),some (.ref w),some (.int wr),some (.int (0+(i:Int))),some (.int (0+(j:Int))),some (.int kk),some (.int nn),some (.bl o)]/\H8=H6) (λN hN=>?_) ?_
    .rfl';refine ak (dN s6 hb) (v:=.int t) rfl ?_;rfl';refine aN (λ_=>?_) λ_=>hN _ _ ⟨o,rfl,rfl⟩;refine⟨a,ns,_,_,_,rfl,s6.seq hS,hn,by lia,by lia,by lia,λp p1 p2=>?_⟩;rfl';exact hN _ _ ⟨_,rfl,rfl⟩
    rintro _ yR σ H7 ⟨o,rfl,rfl⟩;subst yR;have le:(i:Int) * t+(j:Int)<=(i:Int) * t+((j+1:Nat):Int):=by lia
    have bm:0<=(i:Int) * t/\(i:Int) * t<=6 * 12:=⟨aa4 (by lia) (by lia),ac3 (by lia) t2 (by lia) (by decide)⟩
    cases o with
    | true =>
     rfl';exact⟨_,_,_,_,none,rfl,tb,s6,ik,⟨kvs,hk,hT⟩,ay,abK i9 le,dA⟩
    | false =>
     rfl';refine ak (dN s6 hb) (v:=.int f) rfl ?_;rfl';refine⟨a,ns,_,_,_,rfl,s6.seq hS,hn,by lia,hf,λwp lo hi H8 s7 TJ TK _=>⟨a7,λk TL=>?_⟩⟩;have u:=au (o:=.tup [.int (0+(i:Int)),.int (0+(j:Int))]) TL;have Ii:=(s7.trans u) _ _ hk;refine⟨_,oB.t (k:=bB (0+(i:Int)) (0+(j:Int))) Ii ax (ZE (by lia:kvs.length<=100) (by decide)),_,_,_,_,none,rfl,gv tb (0+(i:Int),0+(j:Int)) (lo,hi),jw ik (s6.trans (s7.trans u)),ik,⟨_,ax,?_⟩,ay.put ⟨⟨by show 0<=0+(i:Int);lia,by show 0+(i:Int)<e;lia⟩,by show 0<=0+(j:Int);lia,by show 0+(j:Int)<t;lia⟩,?_,λr hr=>?_⟩
     .have F:Fr _ (upd _ w (.dT (putK kvs (bB (0+(i:Int)) (0+(j:Int))) (.ref wp)))):=Ff Ii;exact a8.put (s:=(0+(i:Int),0+(j:Int))) (w:=(lo,hi)) (hT.imp λv a b z=>(aK.same z (s7.trans u)).fr F) (aK.fr ⟨wp,rfl,u _ _ TJ⟩ F)
     .have:=O2 tb (0+(i:Int),0+(j:Int)) (lo,hi);show ((gv tb (0+(i:Int),0+(j:Int)) (lo,hi)).length:Int)<=(i:Int) * t+((j+1:Nat):Int);lia
     .rcases Tz hr with z|z
      .exact dA r z
      .rw[z];exact TK
   .rintro σ H6 ⟨e2,e3,e4,e5,_,rfl,tb,s6,ik,hT,ay,i9,dA⟩;refine⟨_,_,_,_,_,rfl,tb,s6,ik,hT,ay,?_,dA⟩;have i9:(tb.length:Int)<=(i:Int) * t+((t.toNat:Nat):Int):=i9;show (tb.length:Int)<=((i+1:Nat):Int) * t;rw[Int.natCast_add,agK];lia
  .obtain⟨e1,e2,e3,e4,e5,rfl,tb,s6,ik,hT,ay,i9,dA⟩:=h;refine⟨_,_,_,_,_,rfl,tb,s6,ik,hT,ay,?_,dA⟩;have i9:(tb.length:Int)<=((e.toNat:Nat):Int) * t:=i9;rw[aaB (by lia)] at i9;exact i9
 rintro _ yR σ H5 ⟨e1,e2,e3,e4,e5,rfl,tb,s5,ik,hT,ay,i9,dA⟩;subst yR;rfl';refine ak (dN s5 hb) (v:=.int e) rfl (ak (dN s5 hb) (v:=.int t) rfl (ak (dN s5 hb) (v:=.int f) rfl (ak (dN s5 hb) (v:=.int u) rfl ?_)));rfl';refine⟨mL (by lia) (by lia),ak (dN s5 hb) (v:=.int f) rfl (ak (dN s5 hb) (v:=.int d) rfl ?_)⟩;rfl';refine⟨mL (by lia) (by lia),ak (dN s5 hb) (v:=.int m) rfl ⟨by decide,λr hr=>?_⟩⟩;exact q (.ref r) w tb _ (s5.trans (au hr)) ik ⟨r,rfl,ax,hT.same (au hr)⟩ ay (by lia) dA
structure cb(B:YC)(H:Hp)(x:YC)(e t u d m:Int)(p:YC)(tb:Tb):Prop where
 ob:∃ dx,H x=some (.ins B dx (vI e t u d m p))
 tb:TabAt H p tb
theorem cb.same{B:YC}{H H':Hp}{x p:YC}{e t u d m:Int}{tb:Tb}(h:cb B H x e t u d m p tb)(s:aj H H'):cb B H' x e t u d m p tb:=let ⟨⟨dx,a⟩,b⟩:=h;⟨⟨dx,s _ _ a⟩,b.same s⟩
theorem cb.now{B:YC}{H H':Hp}{x p:YC}{e t u d m:Int}{tb iG:Tb}(h:cb B H x e t u d m p tb)(s:Fr H H')(hp:TabAt H' p iG):cb B H' x e t u d m p iG:=let ⟨⟨dx,a⟩,_⟩:=h;⟨⟨dx,s _ _ (λ_ z=>nomatch z) a⟩,hp⟩
inductive TM(B C:YC)(vs:List V)(H:Hp)(Q:VK)(E:XK):Prop
 | mk(x p:YC)(e t u d m i j:Int)(kvs:List (List Key × V))(_:vs=[.ref x,.int i,.int j])(_:fX B H x e t u d m p kvs)(_:(cH kvs (bB i j)=none->∀ H',aj H H'->E (.ref C) none H'))(_:(∀ v,cH kvs (bB i j)=some v->∀ H',SameBut p H H'->H' p=some (.dT (fL kvs (bB i j)))->Q .non H'))
theorem TN(T:Tx K mg):Om P w mg base 2 T.lU (TM T.aL T.jU):=by
 refine m5 Hy ?_;rintro _ _ _ _ _ _ _ _ hr ⟨x,p,e,t,u,d,m,i,j,kvs,rfl,hb,q0,q⟩;refine⟨_,(ar (dS (jo (aa 0) T.bG T.SF (Tf T) (hr.mono (by decide)) T.lW.b .nil cE (ae (aa 1) (ae (aa 2) ag))))
  (aw (dS (E7 (eY hr) (ck rfl (aa 0) rfl) (aS (ae (aa 1) (ae (aa 2) ag))) ⟨rfl,rfl,rfl,rfl⟩)))),?_⟩
 obtain⟨⟨dx,hx⟩,hp⟩:=id hb;rfl';refine⟨_,_,hx,rfl,x,p,e,t,u,d,m,i,j,kvs,rfl,hb,q0,λv hv H1 s1=>?_⟩;have jx:=s1 _ _ hx;have ip:=s1 _ _ hp;rfl';refine⟨_,_,_,jx,T.bG,T.md,_,rfl,p,rfl,.inr ⟨kvs,.inl ip⟩,a7,λk hk=>?_⟩;refine⟨kvs,(au hk) _ _ ip,bB i j,ax,v,hv,q v hv _ (λb o kx e=>?_) ax⟩;rw[aD kx];exact (au hk) _ _ (s1 _ _ e)
inductive TQ(B:YC)(vs:List V)(H:Hp)(Q:VK)(aP:XK):Prop
 | mk(x p:YC)(e t u d m:Int)(tb:Tb)(_:vs=[.ref x])(_:cb B H x e t u d m p tb)(_:(tb.map (·.1)).Nodup)(_:tb.length<64)(_:∀ l xs H',aj H H'->H l=none->H' l=some (.lst xs)->az (jH H') xs (lB tb)->Q (.ref l) H')
theorem Ij(T:Tx K mg):Om P w mg base 1 T.kS (TQ T.aL):=by
 refine o7 Hz ?_;rintro _ _ _ s H _ Q _ hr ⟨x,p,e,t,u,d,m,tb,rfl,⟨⟨dx,hx⟩,kvs,hp,hT⟩,hn,eM,q⟩;refine⟨_,(aw (aA (c7 (bP.mk (fr:=[0]) (ys:=["self"]) rfl (by decide +kernel) rfl (by decide +kernel) rfl rfl (.cons rfl .nil) (.cons rfl rfl rfl rfl .nil) (by decide) rfl) rfl (cU (aZ (OV rfl) (by rfl) T.HP Dd (ae (ck rfl (aa 0) rfl) ag))) (λC s2 H2 ex pn=>⟨dO,(aS (ae (cI (K:=K) (aa 0) af) (ae (cI (K:=K) (aa 0) af) (ae (Fd (eY hr) (ck (K:=K) rfl (aa 1) rfl) (aa 0) (λ_ _=>rfl)) ag))))⟩)))),?_⟩;rfl';refine⟨_,_,_,hx,T.bG,T.md,_,rfl,p,rfl,kvs,hp,jG tb,O3 hT,O4,by rw[hT.len];exact eM,λl ys hl hk=>?_⟩;have PS:=O5 hT hk;have s1:=au (o:=.lst (dq (jG tb) .non ys)) hl;have L1:upd H l (.lst (dq (jG tb) .non ys)) l=some (.lst (dq (jG tb) .non ys)):=ax;generalize upd H l (.lst (dq (jG tb) .non ys))=H1 at s1 L1 ⊢;refine⟨⟨_,ai.of L1⟩,cF iK (Yw (by rw[PS.len,oI];exact ab6 eM:_<=64) (by decide)) (gq (R:=λH x (r:P2 × S2)=>aR H x r.1) (R':=λH y (r:P2 × S2)=>jH H y r) (f:=λr=>r) (bs:=[]) (λ_ _ _ _ s r=>aR.same r s) (λ_ _ _ _ s r=>jH.same r s) (PS.imp λx r z=>aR.same z s1) trivial (λH' s'=>ai.of (s' _ _ L1)) (λx r _ H' s' bU Q h=>?_) (λx r bU H' s' h0 Q h=>?_) λH2 zs s2 hz=>?_)⟩
 .rfl';exact h
 .obtain⟨a,rfl,ha⟩:=id h0;have S:=s1.trans s';have TR:=hT.imp λv a b z=>aK.same z S;obtain⟨w,hw,iw⟩:=(TR.val r.1).2 _ (oH hn (uO bU));rfl';refine ak (ah.of ha) rfl (ak (ah.of ha) rfl ⟨_,_,_,S _ _ hx,T.bG,T.md,_,rfl,p,rfl,w,?_,?_⟩)
  .rw[<- hw];exact eL.t (k:=bB r.1.1 r.1.2) (S _ _ hp) ha
  .exact⟨by decide,λz hz=>h _ _ (au hz) ⟨z,w,rfl,ax,aK.same iw (au hz)⟩⟩
 rw[Y0,agE] at hz;exact λl2 bA=>q l2 zs _ (s1.trans (s2.trans (au bA))) ((s1.trans s2).free bA) ax (hz.imp λx r z=>jH.same z (au bA))
inductive TU(K:Yp)(vs:List V)(H:Hp)(Q:VK)(aP:XK):Prop
 | mk(a:YC)(xs:List V)(ss:List S2)(_:vs=[.ref a])(_:ai K H a xs)(_:lz H xs ss)(_:xs.length<=1000)(_:∀ v H',aj H H'->fJ H' v (fb (none,none) ss)->Q v H')
inductive TV(K:Yp)(H:Hp)(a:YC)(xs:List V)(ss:List S2)(i:Nat)(σ:St)(H1:Hp):Prop
 | mk(v:V)(e:Option V)(_:σ=[some (.ref a),some v,e])(_:aj H H1)(_:aK H1 v (aY (none,none) (ss.take i)).1 (aY (none,none) (ss.take i)).2)(_:aW (aY (none,none) (ss.take i)).1 (aY (none,none) (ss.take i)).2=false)
theorem A2(T:Tx K mg):Ok P w base 3 T.rN (TU K):=by
 refine bf rn ?_;rintro _ _ _ _ H _ _ _ hr ⟨a,xs,ss,rfl,hS,hP,hn,q⟩;refine⟨_,(ar (aJ 1 rn.nd (aS (ae bH (ae bH ag))))
  (ar (cu Zd rfl (cU (aa 0)) (bX 2 rn.nd) (ar (aJ 1 rn.nd (aF (AY T) hr (ae (aa 1) (ae (aa 2) ag))))
    (aw (aI (dG (aa 1)) (aw (aA bH)) aH))))
  (aw (aA (aa 1))))),?_⟩
 have hA:=lC.mp hP;have hl:=hA.len;rfl';refine⟨a7,λp hp=>?_⟩;have s0:=au (o:=.tup [.non,.non]) hp;refine⟨⟨_,s0.seq hS⟩,ki (xs:=xs) (TV K H a xs ss) ⟨_,_,rfl,s0,⟨p,rfl,ax⟩,rfl⟩ ?_ ?_ ?_⟩
 .rintro i σ H1 _ ⟨_,_,_,s1,_⟩;exact s1.seq hS
 .rintro i x σ H1 hx ⟨v,e,rfl,s1,hv,hc⟩;obtain⟨w,hw,r⟩:=hA.get hx;have e1:=O8 (e:=(none,none)) hw;rfl';refine⟨v,x,_,_,w.1,w.2,rfl,hv,r.same s1,λy H2 s2 hm=>?_⟩;have lG:Et H2 y (aY (none,none) (ss.take (i+1))).1 (aY (none,none) (ss.take (i+1))).2:=by rw[e1];exact hm
  cases hk:aW (aY (none,none) (ss.take (i+1))).1 (aY (none,none) (ss.take (i+1))).2 with
  | true =>
   have ey:=lG.1 hk;subst ey;rfl';refine q _ _ (s1.trans s2) ?_;unfold fb;rw[if_pos (O7 hk)];rfl
  | false =>
   have hy:=lG.2 hk;obtain⟨t,rfl,ht⟩:=id hy;rfl';exact⟨_,_,rfl,s1.trans s2,hy,hk⟩
 .rintro σ H1 ⟨v,e,rfl,s1,hv,hc⟩;rfl';rw[hl,ZR] at hv hc;refine q _ _ s1 ?_;unfold fb;rw[if_neg (by rw[hc];simp)];exact hv
inductive TX(B:YC)(vs:List V)(H:Hp)(Q:VK)(aP:XK):Prop
 | mk(x p:YC)(e t u d m i:Int)(k:Str)(kvs:List (List Key × V))(_:vs=[.ref x,.str k,.int i])(_:fX B H x e t u d m p kvs)(_:Q (.bl (hasB t k i)) H)
theorem TY(T:Tx K mg):Ok P w base 2 T.rO (TX T.aL):=by
 refine bf G8 ?_;rintro _ _ _ _ _ _ _ _ hr ⟨x,p,e,t,u,d,m,i,k,kvs,rfl,hb,q⟩;refine⟨_,(ar (aI (bW (aa 1) ba) (aw (aA (eR (jo (aa 0) T.bG T.sX (tf T) (hr.mono (by decide)) T.ie.b .nil bO (ae (aa 2) ag)) (ft (jo (aa 0) T.bG T.sX (tf T) (hr.mono (by decide)) T.ie.b .nil bO (ae (aG bp (aa 2) af) ag)))))) aH)
  (aw (aA (eR (eG nR (aa 1) ba (cB _)) (ft (jo (aa 0) T.bG T.sX (tf T) (hr.mono (by decide)) T.ie.b .nil bO (ae (aa 2) ag))))))),?_⟩
 obtain⟨⟨dx,hx⟩,hp⟩:=id hb;unfold hasB at q;rfl'
 try refine⟨rfl,?_⟩
 by_cases hk:k = "step"
 .subst hk;rw[if_pos rfl] at q ⊢;refine⟨_,_,hx,rfl,x,p,e,t,u,d,m,i,kvs,rfl,hb,?_⟩;by_cases h1:0<=i/\i<t
  .rw[decide_eq_true h1] at q ⊢;rfl';refine⟨_,_,hx,rfl,x,p,e,t,u,d,m,_,kvs,rfl,hb,?_⟩;rw[adA] at q;exact q
  .rw[decide_eq_false h1] at q ⊢;rfl';exact q
 .rw[if_neg hk] at q;rw[if_neg hk]
  try refine⟨rfl,?_⟩
  by_cases hJ:k = "at"
  .subst hJ;rw[decide_eq_true rfl,adA] at q;rw[if_pos rfl];refine⟨_,_,hx,rfl,x,p,e,t,u,d,m,i,kvs,rfl,hb,?_⟩;exact q
  .rw[decide_eq_false hJ,ab4] at q;rw[if_neg λz=>hJ (V.str.inj z)];exact q
inductive TZ(K:Yp)(B C:YC)(vs:List V)(H:Hp)(Q:VK)(E:XK):Prop
 | mk(x p b:YC)(e t u d m:Int)(kvs:List (List Key × V))(xs:List V)(ps:List Pa)(_:vs=[.ref x,.ref b])(_:fX B H x e t u d m p kvs)(_:ai K H b xs)(_:dF H xs ps)(_:(¬ fc t ps->E (.ref C) none H))(_:(fc t ps->Q .non H))
inductive T4(H:Hp)(x b:YC)(t:Int)(ps:List Pa)(i:Nat)(σ:St)(H1:Hp):Prop
 | mk(e:Option V)(_:σ=[some (.ref x),some (.ref b),e])(_:H1=H)(_:fc t (ps.take i))
theorem Ik(T:Tx K mg):Ok P w base 3 T.iX (TZ K T.aL T.gD):=by
 refine ia AJ ?_;rintro _ _ _ _ H _ _ _ hr ⟨x,p,b,e,t,u,d,m,kvs,xs,ps,rfl,hb,hX,hP,q0,q⟩;refine⟨_,(aw (cu aaV rfl (cU (aa 1)) (bX 2 AJ.nd) (aw (aI (bR (bQ (aF (TY T) hr (ae (aa 0) (ae (aq (aa 2) af) (ae (aq (aa 2) af) ag)))))) (aw (iE iF rfl T.AU T.vH rfl (ae ba ag))) aH)))),?_⟩;have hl:=hP.len;rfl';refine⟨⟨_,hX⟩,ki (xs:=xs) (T4 H x b t ps) ⟨_,rfl,rfl,λ_ h=>by simp at h⟩ ?_ ?_ ?_⟩
 .rintro i σ H1 _ ⟨_,_,rfl,_⟩;exact hX
 .rintro i y σ H1 hy ⟨e1,rfl,rfl,hk⟩;obtain⟨pa,eS,ta,qa,rfl,h1,h2⟩:=hP.get hy;rfl';refine ak (ah.of h1) rfl (ak (ah.of h1) rfl ?_);refine⟨x,p,e,t,u,d,m,pa.2.1,pa.1,kvs,rfl,hb,?_⟩;cases hc:hasB t pa.1 pa.2.1 with
  | true =>
   rfl';refine⟨_,rfl,rfl,λz hz=>?_⟩;rw[ZI,eS] at hz;rcases Y3.mp hz with h|h
   .exact hk z h
   .have:z=pa:=by simpa using h
    rw[this];exact hc
  | false =>
   rfl';refine⟨by decide,q0 λz=>?_⟩;rw[z pa (YF eS)] at hc;cases hc
 .rintro σ H1 ⟨e1,rfl,rfl,hk⟩;rw[hl,ZR] at hk;rfl';exact q hk
inductive T5(K:Yp)(vs:List V)(H:Hp)(Q:VK)(aP:XK):Prop
 | mk(b:YC)(xs:List V)(ps:List Pa)(k:Str)(t:Int)(_:vs=[.ref b,.str k,.int t])(_:ai K H b xs)(_:dF H xs ps)(_:ps.length<=1000)(_:∀ l ys H',aj H H'->H l=none->H' l=some (.lst ys)->lz H' ys (sel ps k t)->Q (.ref l) H')
theorem Il(T:Tx K mg):Ok P w base 1 T.rP (T5 K):=by
 refine bf G9 ?_;rintro _ _ _ s H _ Q _ _ ⟨b,xs,ps,k,t,rfl,hX,hP,hn,q⟩;refine⟨_,(aw (aA (c7 (bP.mk (fr:=[1,2]) (ys:=["kind","turn"]) rfl (by decide +kernel) rfl (by decide +kernel) rfl rfl (.cons rfl (.cons rfl .nil)) (.cons rfl rfl rfl rfl (.cons rfl rfl rfl rfl .nil)) (by decide) rfl) rfl (cU (aa 0)) (λC s2 H2 ex pn=>⟨(gP (PW.pt (gh (bW (cI (K:=K) (aa 0) af) (aa 1)) (gI (bW (cI (K:=K) (aa 0) af) (aa 2)))))),(cI (K:=K) (aa 0) af)⟩)))),?_⟩;have hl:=hP.len;rfl';refine⟨⟨_,hX⟩,cF iK (Yw (by lia:xs.length<=1000) (by decide)) (oJ (R:=λx p=>iQ H x p) (R':=λy (s:S2)=>aK H y s.1 s.2) (p:=jI k t) (f:=λp=>p.2.2) hX hP (λx p r Q h=>?_) (λx p _ r Q h=>?_) λzs hz=>?_)⟩
 .obtain⟨tt,u,rfl,ht,hu⟩:=r;unfold jI at h;rfl';refine ak (ah.of ht) rfl ?_;rfl'
  try refine⟨rfl,?_⟩
  by_cases hk:p.1=k
  .rw[decide_eq_true hk,adA] at h;rw[if_pos (by rw[hk])];refine ak (ah.of ht) rfl ?_;rfl';exact y0 (Q:=λk=>Q k H) h
  .rw[decide_eq_false hk,ab4] at h;rw[if_neg hk];exact h
 .obtain⟨tt,u,rfl,ht,hu⟩:=r;rfl';exact ak (ah.of ht) rfl (h _ ⟨u,rfl,hu⟩)
 .rw[Y0];intro l bA;exact q l zs _ (au bA) bA ax (lC.mpr (hz.imp λ_ _ r=>r.same (au bA)))
noncomputable def dI(u d:Int)(ps:List Pa)(n:Nat):List W2:=(YZ n).map λ(k:Nat)=>fb (none,none) ((some (-d),some u)::sel ps "step" (k:Int))
inductive T6(K:Yp)(B C:YC)(vs:List V)(H:Hp)(Q:VK)(E:XK):Prop
 | mk(x p b:YC)(e t u d m:Int)(kvs:List (List Key × V))(xs:List V)(ps:List Pa)(_:vs=[.ref x,.ref b])(_:fX B H x e t u d m p kvs)(_:1<=t)(_:t<=12)(_:ai K H b xs)(_:dF H xs ps)(_:ps.length<=900)(_:(¬ fc t ps->E (.ref C) none H))(_:(fc t ps->∀ l ys H',aj H H'->H l=none->H' l=some (.lst ys)->az (fJ H') ys (dI u d ps (t-1).toNat)->Q (.ref l) H'))
theorem T7(T:Tx K mg):Ok P w base 4 T.lO (T6 K T.aL T.gD):=by
 refine ia AK ?_;rintro _ _ _ s H _ Q _ hr ⟨x,p,b,e,t,u,d,m,kvs,xs,ps,rfl,hb,t1,t2,hX,hP,hn,q0,q⟩;refine⟨_,(ar (dS (bC (Ik T) (hr.mono (by decide)) rfl T.iX.m T.iX.F.kp T.iX.b .nil cE (ae (aa 0) (ae (aa 1) ag))))
  (ar (aJ 2 AK.nd (cX (ae (aS (ae (gL hU (ck rfl (aa 0) rfl)) (ae (ck rfl (aa 0) rfl) ag))) ag)))
  (aw (aA (c7 (bP.mk (fr:=[2,1]) (ys:=["own","claim"]) rfl (by decide +kernel) rfl (by decide +kernel) rfl rfl (.cons rfl (.cons rfl .nil)) (.cons rfl rfl rfl rfl (.cons rfl rfl rfl rfl .nil)) (by decide) rfl) rfl (fH rfl T.cQ (ae (aG da (ck rfl (aa 0) rfl) af) ag)) (λC s2 H2 ex pn=>⟨dO,(aF (A2 T) hr (ae (aG lg (aa 1) (aF (Il T) hr (ae (aa 2) (ae ba (ae (aa 0) ag))))) ag))⟩)))))),?_⟩
 obtain⟨⟨dx,hx⟩,hp⟩:=id hb;rfl';refine⟨x,p,b,e,t,u,d,m,kvs,xs,ps,rfl,hb,hX,hP,q0,λhk=>?_⟩;rfl';refine⟨_,_,_,hx,T.bG,T.vG,_,rfl,_,_,_,hx,T.bG,T.vF,_,rfl,a7,λo ho=>⟨by decide,λl hl=>?_⟩⟩;have s1:=(au (o:=.tup [.int (-d),.int u]) ho).trans (au (o:=.lst [.ref o]) hl);have O1:aK (upd (upd H o (.tup [.int (-d),.int u])) l (.lst [.ref o])) (.ref o) (some (-d)) (some u):=⟨o,rfl,(au hl) _ _ ax⟩
 have L1:(upd (upd H o (.tup [.int (-d),.int u])) l (.lst [.ref o])) l=some (.lst [.ref o]):=ax;generalize upd (upd H o (.tup [.int (-d),.int u])) l (.lst [.ref o])=H1 at s1 O1 L1 ⊢;refine⟨_,_,_,s1 _ _ hx,T.bG,T.l8,_,rfl,by lia,by lia,?_⟩;refine cF iL (by rw[Yq,YE];exact Yw (by lia:_<=12) (by decide)) (gq (R:=λ_ x (k:Nat)=>x=V.int ((0:Int)+k)) (R':=fJ) (f:=λ(k:Nat)=>fb (none,none) ((some (-d),some u)::sel ps "step" (k:Int))) (λ_ _ _ _ _ h=>h) (λ_ _ _ _ s' h=>h.same s') (az.fF _) (bs:=[]) trivial (λ_ _=>trivial) (λx k _ H2 s2 r Q h=>?_) (λx k _ H2 s2 r Q h=>?_) λH2 zs s2 hz=>?_)
 .rfl';exact h
 .subst r;have S2:=s1.trans s2;rfl';refine⟨b,xs,ps,"step",_,rfl,S2.seq hX,hP.same S2,by lia,λr ys H3 s3 _ R3 hR=>?_⟩;rw[acf] at hR;rfl';have hlen:ys.length<=900:=by
   have:=(lC.mp hR).len;have h2:(sel ps "step" (k:Int)).length<=ps.length:=by unfold sel;rw[Yq];exact Y2 _ _
   lia
  refine⟨[.ref o],s3 _ _ (s2 _ _ L1),ys,R3,Yw (by show 1+ys.length<=1000;lia) (by decide),λc hc=>?_⟩;have s4:=au (o:=.lst ([.ref o]++ys)) hc;refine⟨c,_,(some (-d),some u)::sel ps "step" (k:Int),rfl,ai.of ax,⟨(O1.same (s2.trans s3)).same s4,?_⟩,by rw[YO,YY];lia,λv H5 s5 hv=>h _ _ ((s3.trans s4).trans s5) hv⟩;exact lC.mpr ((lC.mp hR).imp λ_ _ r=>r.same s4)
 .intro c hc;refine q hk c zs _ ((s1.trans s2).trans (au hc)) ((s1.trans s2).free hc) ax ?_;rw[Y0] at hz;exact hz.imp λ_ _ r=>r.same (au hc)
noncomputable def ed(ps:List Pa)(n:Nat):List W2:=(YZ n).map λ(k:Nat)=>fb (none,none) (sel ps "at" (k:Int))
inductive T8(K:Yp)(B C:YC)(vs:List V)(H:Hp)(Q:VK)(E:XK):Prop
 | mk(x p b:YC)(e t u d m:Int)(kvs:List (List Key × V))(xs:List V)(ps:List Pa)(_:vs=[.ref x,.ref b])(_:fX B H x e t u d m p kvs)(_:1<=t)(_:t<=12)(_:ai K H b xs)(_:dF H xs ps)(_:ps.length<=900)(_:(¬ fc t ps->E (.ref C) none H))(_:(fc t ps->∀ l ys H',aj H H'->H l=none->H' l=some (.lst ys)->az (fJ H') ys (ed ps t.toNat)->Q (.ref l) H'))
theorem T9(T:Tx K mg):Ok P w base 4 T.lP (T8 K T.aL T.gD):=by
 refine ia Ha ?_;rintro _ _ _ s _ _ Q _ hr ⟨x,p,b,e,t,u,d,m,kvs,xs,ps,rfl,hb,t1,t2,hX,hP,hn,q0,q⟩;refine⟨_,(ar (dS (bC (Ik T) (hr.mono (by decide)) rfl T.iX.m T.iX.F.kp T.iX.b .nil cE (ae (aa 0) (ae (aa 1) ag))))
  (aw (aA (c7 (bP.mk (fr:=[1]) (ys:=["claim"]) rfl (by decide +kernel) rfl (by decide +kernel) rfl rfl (.cons rfl .nil) (.cons rfl rfl rfl rfl .nil) (by decide) rfl) rfl (fH rfl T.cQ (ae (ck rfl (aa 0) rfl) ag)) (λC s2 H2 ex pn=>⟨dO,(aF (A2 T) hr (ae (aF (Il T) hr (ae (aa 1) (ae ba (ae (aa 0) ag)))) ag))⟩))))),?_⟩
 obtain⟨⟨dx,hx⟩,hp⟩:=id hb;rfl';refine⟨x,p,b,e,t,u,d,m,kvs,xs,ps,rfl,hb,hX,hP,q0,λhk=>?_⟩;rfl';refine⟨_,_,_,hx,T.bG,T.l8,_,rfl,_,rfl,by lia,by lia,?_⟩;refine cF iL (by rw[Yq,YE];exact Yw (by lia:_<=12) (by decide)) (gq (R:=λ_ x (k:Nat)=>x=V.int ((0:Int)+k)) (R':=fJ) (f:=λ(k:Nat)=>fb (none,none) (sel ps "at" (k:Int))) (λ_ _ _ _ _ h=>h) (λ_ _ _ _ s' h=>h.same s') (az.fF _) (bs:=[]) trivial (λ_ _=>trivial) (λx k _ H2 s2 r Q h=>?_) (λx k _ H2 s2 r Q h=>?_) λH2 zs s2 hz=>?_)
 .rfl';exact h
 .subst r;rfl';refine⟨b,xs,ps,"at",_,rfl,s2.seq hX,hP.same s2,by lia,λr ys H3 s3 _ R3 hR=>?_⟩;rw[acf] at hR;rfl';have hlen:ys.length<=900:=by
   have:=(lC.mp hR).len;have h2:(sel ps "at" (k:Int)).length<=ps.length:=by unfold sel;rw[Yq];exact Y2 _ _
   lia
  exact⟨r,ys,_,rfl,ai.of R3,hR,by lia,λv H5 s5 hv=>h _ _ (s3.trans s5) hv⟩
 .intro c hc;refine q hk c zs _ (s2.trans (au hc)) (s2.free hc) ax ?_;rw[Y0] at hz;exact hz.imp λ_ _ r=>r.same (au hc)
inductive Ua(vs:List V)(H:Hp)(Q:VK)(aP:XK):Prop
 | mk(v:V)(c:S2)(_:vs=[v])(_:qS H v c)(_:Q (.int (kD c)) H)
theorem Im(T:Tx K mg):Ok P w base 1 T.rR Ua:=by
 refine bf Hg ?_;rintro _ _ _ _ _ _ _ _ _ ⟨v,⟨e1,e2⟩,rfl,⟨p,rfl,hp⟩,q⟩;refine⟨_,(ar (aI (fT (aq (aa 0) af)) (aw (aA (aq (aa 0) af))) aH)
  (ar (aI (fT (aq (aa 0) af)) (aw (aA (aq (aa 0) af))) aH)
  (aw (aA af)))),?_⟩
 rfl';refine ak (ah.of hp) rfl ?_;rcases e1 with _|x
 .rfl';refine ak (ah.of hp) rfl ?_;rcases e2 with _|y
  .rfl';exact q
  .rfl';exact ak (ah.of hp) rfl q
 .rfl';exact ak (ah.of hp) rfl q
theorem Ub(h:s∉tb.map (·.1)):gv tb s w=tb++[(s,w)]:=by unfold gv;rw[if_neg];intro z;obtain⟨r,hr,e⟩:=aai.mp z;exact h (YI.mpr ⟨r,hr,by simpa using e⟩)
theorem Uc{α β:Type}{f:α->β}{l:List α}{i:Nat}{a:α}(h:(l.map f).Nodup)(ha:l[i]?=some a):f a∉(l.take i).map f:=by
 have hi:=(Yx.mp ha).1;have e:l=l.take i++a::l.drop (i+1):=by have:=aaK i l;rw[Zs hi] at this;rw[Ys hi] at ha;cases ha;exact this.symm
 intro hm;have h2:((l.take i).map f++f a::(l.drop (i+1)).map f).Nodup:=by rw[<- YV,<- Z1,<- e];exact h
 exact (adm.mp h2).2.2 _ hm _ (.head _) rfl
def Ud(B:YC)(H3:Hp)(v:V)(x p:YC)(e t u d m:Int)(tb:Tb)(i:Nat)(σ:St)(H4:Hp):Prop:=(∃ e1,σ=[some v,some (.ref x),e1])/\oG [p] H3 H4/\cb B H4 x e t u d m p (tb.take i)
inductive Ue(K:Yp)(B:YC)(vs:List V)(H:Hp)(Q:VK)(aP:XK):Prop
 | mk(v:V)(w:YC)(e t u d m:Int)(tb:Tb)(_:vs=[v])(_:fB H v w e t u d m tb)(_:df e t u d m)(_:bV e t tb)(_:tb.length<=60)(_:(∀ r∈tb,aW r.2.1 r.2.2=false))(_:∀ (x p:YC) (H':Hp),aj H H'->H x=none->H p=none->cb B H' x e t u d m p tb->Q (.ref x) H')
theorem Ug(T:Tx K mg):Ok P w base 4 T.sH (Ue K T.aL):=by
 refine bf vx ?_;rintro _ _ _ _ H _ _ _ hr ⟨_,w,e,t,u,d,m,tb,rfl,⟨wr,rfl,hwr,hT⟩,bJ,ay,cc,dA,q⟩;refine⟨_,(ar (aJ 1 vx.nd (t8 T.AX (SW T) (hr.mono (by decide)) rfl T.Sw T.nj.b .nil bO (ae (aq (aa 0) af) (ae (aq (aa 0) af) (ae (aq (aa 0) af) (ae (aq (aa 0) af) (ae (aq (aa 0) af) ag)))))))
  (ar (FI (cu Zd rfl (FK (aq (aa 0) af)) (bX 2 vx.nd) (aw (dS (jo (aa 1) T.bG T.SA (Th T) (hr.mono (by decide)) T.lT.b .nil bO (ae (aq (aa 2) af) (ae (aq (aa 2) af) (ae (aq (uL (eY hr) (aq (aa 0) af) (aa 2) (λ_ _=>rfl)) af) (ae (aq (uL (eY hr) (aq (aa 0) af) (aa 2) (λ_ _=>rfl)) af) ag)))))))))
  (aw (aA (aa 1))))),?_⟩
 obtain⟨kvs,hk,hA⟩:=id hT;refine aC (λσ H1=>∃ x p,σ=[some (.ref wr),some (.ref x),none]/\aj H H1/\H x=none/\H p=none/\cb T.aL H1 x e t u d m p []) (λN hN=>?_) ?_
 .rfl';refine ak (ah.of hwr) (v:=.int e) rfl (ak (ah.of hwr) (v:=.int t) rfl (ak (ah.of hwr) (v:=.int u) rfl (ak (ah.of hwr) (v:=.int d) rfl (ak (ah.of hwr) (v:=.int m) rfl λx dx hx Uh fA=>?_))));refine⟨x,dx,e,t,u,d,m,rfl,ax,λz=>absurd bJ z,λ_ p H1 hp s1 X1 P1=>⟨rfl,?_⟩⟩;have M:=OH (C:=T.aL) (fs:=[]) hx Uh fA;have S1:aj H H1:=λb o e=>s1 b o (λz=>by rw[z,hx] at e;cases e) (M _ _ e);exact hN _ _ ⟨x,p,rfl,S1,hx,M.free hp,⟨⟨_,X1⟩,[],P1,trivial⟩⟩
 rintro _ yR σ H1 ⟨x,p,rfl,s1,fx,fp,hB⟩;subst yR;have iq:=s1 _ _ hk;have wp:w≠p:=λz=>by rw[z,fp] at hk;cases hk
 refine aC (λσ H2=>(∃ e1,σ=[some (.ref wr),some (.ref x),e1])/\aj H H2/\cb T.aL H2 x e t u d m p tb) (λN hN=>?_) ?_
 .rfl';refine⟨w,kvs,iq,λo=>?_⟩;obtain⟨⟨dx,jx⟩,kp,ip,Ui⟩:=id hB;have xw:x≠w:=λz=>by rw[z,iq] at jx;cases jx
  have mh:=yI iq (s1 _ _ hwr) (u:=.aQ o (.dT kvs));have w3:upd H1 w (.aQ o (.dT kvs)) w=some (.aQ o (.dT kvs)):=ax;have p3:upd H1 w (.aQ o (.dT kvs)) p=some (.dT kp):=by rw[aD (Zj wp)];exact ip
  have Io:cb T.aL (upd H1 w (.aQ o (.dT kvs))) x e t u d m p []:=⟨⟨dx,by rw[aD xw];exact jx⟩,kp,p3,Ui.imp λ_ _ _ z=>z.aQ iq⟩
  have nv:=a8.aQ (hA.imp λ_ _ _ z=>aK.same z s1) iq (u:=.aQ o (.dT kvs));have tm:∀ H4,oG [p] (upd H1 w (.aQ o (.dT kvs))) H4->aj H (upd H4 w (.dT kvs)):=λH4 bu b u hb=>by
   by_cases hbw:b=w
   .subst hbw;rw[ax];rw[hk] at hb;exact hb
   .rw[aD hbw];exact bu b u (by simpa using λz=>by rw[z,fp] at hb;cases hb) (by rw[aD hbw];exact s1 _ _ hb)
  refine ak (ah.of mh) (v:=.ref w) rfl ⟨w,rfl,o,kvs,w3,λmi=>?_⟩;have PT:=nv.qN mi;have kl:=PT.len;rw[Yq] at kl;generalize upd H1 w (.aQ o (.dT kvs))=H3 at mh w3 p3 Io nv tm PT;have np:∀ (z:YC) (us:List V),H3 z=some (.tup us)->z∉[p]:=λz us hz=>by simpa using λy=>by rw[y,p3] at hz;cases hz
  refine PY (xs:=gx o) (Ud T.aL H3 (.ref wr) x p e t u d m tb) rfl (by rw[kl,hA.len]) ⟨⟨_,rfl⟩,λ_ _ _ z=>z,Io⟩ ?_ ?_ ?_
  .rintro i σ H4 _ ⟨_,bu,_⟩;exact bu w _ (by simpa using wp) w3
  .rintro i v σ H4 hv ⟨⟨e1,rfl⟩,bu,vJ⟩;obtain⟨r1,cf,ka,rfl,gE⟩:=PT.get hv;rw[YG] at cf;obtain⟨r,hr,rfl⟩:=Y6.mp cf;have pA:=YF hr;obtain⟨⟨vK,ny⟩,kq,tq,vL⟩:=id vJ;obtain⟨vv,hvv,va,rfl,hva⟩:=(nv.val r.1).2 _ (oH ay.1 pA);have A3:=bu ka _ (np _ _ gE) gE;have Ip:=bu wr _ (np _ _ mh) mh;have w4:=bu w _ (by simpa using wp) w3;have Iq:=bu va _ (np _ _ hva) hva;have gt:eL H4 w (.ref ka) (some (.ref va)):=by rw[<- hvv];exact eL.z (k:=bB r.1.1 r.1.2) w4 A3
   rfl';refine⟨_,_,ny,rfl,ak (ah.of A3) (v:=.int r.1.1) rfl (ak (ah.of A3) (v:=.int r.1.2) rfl (ak (ah.of Ip) (v:=.ref w) rfl ⟨w,rfl,.ref va,gt,ak (ah.of Iq) rfl (ak (ah.of Ip) (v:=.ref w) rfl ⟨w,rfl,.ref va,gt,ak (ah.of Iq) rfl ?_⟩)⟩))⟩;have Uj:=ay.2 r pA;have Uk:=vL.len;rw[aaF] at Uk;have xp:x≠p:=λz=>by rw[z,tq] at ny;cases ny
   refine⟨x,p,e,t,u,d,m,r.1.1,r.1.2,r.2.1,r.2.2,kq,rfl,⟨⟨vK,ny⟩,tq⟩,by lia,λz=>absurd ⟨Uj,dA r pA⟩ z,λ_ v9 H9 sb A4 Ul=>⟨⟨_,rfl⟩,λc o hc ec=>sb c o (by simpa using hc) (bu c o hc ec),?_⟩⟩;have ek:tb.take (i+1)=gv (tb.take i) r.1 r.2:=by rw[Ub (Uc ay.1 hr),ZI,hr];rfl
   rw[ek];exact⟨⟨vK,sb x _ xp ny⟩,_,A4,a8.put (vL.imp λv a b z=>z.fr (SameBut.fr sb tq)) Ul⟩
  .rintro σ H4 ⟨⟨e1,rfl⟩,bu,vJ⟩;rw[kl,ZR] at vJ;have w4:=bu w _ (by simpa using wp) w3;obtain⟨⟨vK,ny⟩,kq,tq,vL⟩:=vJ;refine⟨w4,hN _ _ ⟨⟨_,rfl⟩,tm _ bu,⟨vK,by rw[aD xw];exact ny⟩,kq,by rw[aD (Zj wp)];exact tq,vL.imp λv a b ⟨pt,e,h⟩=>⟨pt,e,?_⟩⟩⟩;rw[aD (λz=>by rw[z,w4] at h;cases h)];exact h
 rintro _ yR σ H2 ⟨⟨e1,rfl⟩,s2,Um⟩;subst yR;rfl';exact q x p H2 s2 fx fp Um
def A5(tb:Tb)(cs:List Int)(i:Int):Prop:=∃ r∈tb,r.1.1=i/\hs r.2 (cP cs r.1.2.toNat)=false
inductive Uo(K:Yp)(vs:List V)(H:Hp)(Q:VK)(aP:XK):Prop
 | mk(v:V)(w c:YC)(e t u d m:Int)(tb:Tb)(cs:List Int)(_:vs=[v,.ref c])(_:fB H v w e t u d m tb)(_:bV e t tb)(_:tb.length<=60)(_:ai K H c (cs.map V.int))(_:cs.length=t.toNat)(_:∀ (zs:List Int) (H':Hp),aj H H'->zs.Nodup->(∀ i,i∈zs↔A5 tb cs i)->Q (.int zs.length) H')
theorem Up(T:Tx K mg):Ok P w base 2 T.sI (Uo K):=by
 refine bf HH ?_;rintro _ _ _ _ H _ Q _ hr ⟨_,w,c,e,t,u,d,m,tb,cs,rfl,⟨wr,rfl,hwr,hT⟩,ay,cc,hc,bq,q⟩;refine⟨_,(aw (FI (aA (Sh rfl (c7 (bP.mk (fr:=[1,0]) (ys:=["_law_course","_law_world_here"]) rfl (by decide +kernel) rfl (by decide +kernel) rfl rfl (.cons rfl (.cons rfl .nil)) (.cons rfl rfl rfl rfl (.cons rfl rfl rfl rfl .nil)) (by decide) rfl) rfl (FK (aq (aa 0) af)) (λC s2 H2 ex pn=>⟨(gP (bR (bQ (aF (Ia T) hr (ae (Fd (eY hr) (cI (K:=K) (aa 2) af) (aa 0) (λ_ _=>rfl)) (ae (cI (K:=K) (aa 1) (cI (K:=K) (aa 0) af)) ag)))))),(cI (K:=K) (aa 0) af)⟩)) T.cJ T.HN)))),?_⟩;obtain⟨kvs,hk,hA⟩:=id hT;rfl';refine⟨w,kvs,hk,λo=>?_⟩;have mh:=yI hk hwr (u:=.aQ o (.dT kvs));have w3:upd H w (.aQ o (.dT kvs)) w=some (.aQ o (.dT kvs)):=ax;have nv:=hA.aQ hk (u:=.aQ o (.dT kvs));have tu:ai K (upd H w (.aQ o (.dT kvs))) c (cs.map V.int):=P7 hk hc;have tm:∀ H4,aj (upd H w (.aQ o (.dT kvs))) H4->aj H (upd H4 w (.dT kvs)):=λH4 s4=>P5 hk s4;refine ak (ah.of mh) (v:=.ref w) rfl ⟨w,rfl,o,kvs,w3,λmi=>?_⟩;have PT:=nv.qN mi;have kl:=PT.len;rw[Yq] at kl;generalize upd H w (.aQ o (.dT kvs))=H3 at mh w3 nv tu tm PT;have P0:az (λv (r:P2 × S2)=>aR H3 v r.1) (gx o) tb:=az.bind PT;refine cF (P4 (xs:=gx o) rfl (by rw[kl,hA.len])) (Yw (by lia:(gx o).length<=64) (by decide)) (mJ (R:=λv (r:P2 × S2)=>aR H3 v r.1) (p:=λr=>!hs r.2 (cP cs r.1.2.toNat)) (f:=λr=>.int r.1.1) w3 P0 (λv r hr rv Q h=>?_) (λv r hr hp rv Q h=>?_) ?_)
 .obtain⟨ka,rfl,gE⟩:=rv;obtain⟨⟨b1,b2⟩,b3,b4⟩:=ay.2 r hr;obtain⟨vv,hvv,va,rfl,hva⟩:=(nv.val r.1).2 _ (oH ay.1 hr);rfl';refine ak (ah.of mh) (v:=.ref w) rfl ⟨w,rfl,.ref va,by rw[<- hvv];exact eL.z (k:=bB r.1.1 r.1.2) w3 gE,ak (ah.of gE) (v:=.int r.1.2) rfl (bz tu ((congrArg (cC _) (show r.1.2=((r.1.2.toNat:Nat):Int) by lia)).trans (cZ (P8 (by lia)))) ⟨va,r.2.1,r.2.2,cP cs r.1.2.toNat,rfl,ah.of hva,?_⟩)⟩;rfl';exact h
 .obtain⟨ka,rfl,gE⟩:=rv;rfl';exact ak (ah.of gE) (v:=.int r.1.1) rfl h
 .rw[Y0,show ((tb.filter λr=>!hs r.2 (cP cs r.1.2.toNat)).map λr=>V.int r.1.1)=((tb.filter λr=>!hs r.2 (cP cs r.1.2.toNat)).map λr=>r.1.1).map V.int by rw[ZH];rfl];intro l hl;have u:=au (o:=.lst (((tb.filter λr=>!hs r.2 (cP cs r.1.2.toNat)).map λr=>r.1.1).map V.int)) hl;have fl:=Y2 (λr:P2 × S2=>!hs r.2 (cP cs r.1.2.toNat)) tb;refine⟨l,rfl,_,ai.of ax,by rw[Yq];lia,λzs hz hm=>⟨u _ _ w3,q zs _ (tm _ u) hz λi=>?_⟩⟩;rw[hm,YI];constructor
  .rintro ⟨r,hr,e⟩;obtain⟨h1,h2⟩:=Y4.mp hr;exact⟨r,h1,e,by simpa using h2⟩
  .rintro ⟨r,hr,e,h⟩;exact⟨r,Y4.mpr ⟨hr,by simpa using h⟩,e⟩
theorem Uq{ps:List Pa}{i:Nat}{p:Pa}{k:Str}{t:Int}(h:ps[i]?=some p):sel (ps.take (i+1)) k t=sel (ps.take i) k t++(if jI k t p=true then [p.2.2] else []):=by
 unfold sel;rw[ZI,h,List.filter_append,Z1]
 congr 1
 simp only[aeQ,Za,List.filter_nil];split<;>rfl
theorem Ur(e:S2)(ss:List S2)(s:S2):aY e (ss++[s])=(dt (aY e ss).1 s.1,dw (aY e ss).2 s.2):=by unfold aY;rw[adj];rfl
inductive Us(K:Yp)(vs:List V)(H:Hp)(Q:VK)(aP:XK):Prop
 | mk(bg b:YC)(lo hi:En)(xs:List V)(ps:List Pa)(k:Str)(t:Int)(_:vs=[.ref bg,.ref b,.str k,.int t])(_:ah K H bg [ev lo,ev hi])(_:ai K H b xs)(_:dF H xs ps)(_:ps.length<=1000)(_:∀ v H',aj H H'->aK H' v (aY (lo,hi) (sel ps k t)).1 (aY (lo,hi) (sel ps k t)).2->Q v H')
inductive tx(H:Hp)(bg b:YC)(lo hi:En)(ps:List Pa)(k:Str)(t:Int)(i:Nat)(σ:St)(H1:Hp):Prop
 | mk(e1:Option V)(_:σ=[some (.ref bg),some (.ref b),some (.str k),some (.int t),some (ev (aY (lo,hi) (sel (ps.take i) k t)).1),some (ev (aY (lo,hi) (sel (ps.take i) k t)).2),e1])(_:H1=H)
theorem Ir(T:Tx K mg):Ok P w base 1 T.sL (Us K):=by
 refine bf ni ?_;rintro _ _ _ _ H _ _ _ _ ⟨bg,b,lo,hi,xs,ps,k,t,rfl,hg,hX,hP,hn,q⟩;refine⟨_,(ar (aJ 4 ni.nd (aq (aa 0) af))
  (ar (aJ 5 ni.nd (aq (aa 0) af))
  (ar (cu Zd rfl (cU (aa 1)) (bX 6 ni.nd) (aw (aI (PW.pt (gh (bW (aq (aa 6) af) (aa 2)) (gI (bW (aq (aa 6) af) (aa 3))))) (ar (aI (PW.pt (bZ (dG (aa 4)) (dJ (PW.pt (gh (fT (aq (aq (aa 6) af) af)) (gI (vh (aq (aq (aa 6) af) af) (aa 4)))))))) (aw (aJ 4 ni.nd (aq (aq (aa 6) af) af))) aH)
    (aw (aI (PW.pt (bZ (dG (aa 5)) (dJ (PW.pt (gh (fT (aq (aq (aa 6) af) af)) (gI (lN (aq (aq (aa 6) af) af) (aa 5)))))))) (aw (aJ 5 ni.nd (aq (aq (aa 6) af) af))) aH))) aH)))
  (aw (aA (aS (ae (aa 4) (ae (aa 5) ag)))))))),?_⟩
 have hl:=hP.len;refine aC (λσ H1=>σ=[some (.ref bg),some (.ref b),some (.str k),some (.int t),some (ev lo),none,none]/\H1=H) (λN hN=>?_) ?_
 .rfl';exact ak hg rfl (hN _ _ ⟨rfl,rfl⟩)
 rintro _ yR σ H1 ⟨rfl,rfl⟩;subst yR;refine aC (tx H1 bg b lo hi ps k t 0) (λN hN=>?_) ?_
 .rfl';exact ak hg rfl (hN _ _ ⟨_,rfl,rfl⟩)
 rintro _ yR σ H ⟨e1,rfl,rfl⟩;subst yR;refine aC (tx H bg b lo hi ps k t xs.length) (λN hN=>?_) ?_
 .rfl';refine⟨⟨_,hX⟩,ki (xs:=xs) (tx H bg b lo hi ps k t) ⟨_,rfl,rfl⟩ ?_ ?_ ?_⟩
  .rintro i σ H1 _ ⟨_,_,rfl⟩;exact hX
  .rintro i x σ H1 hx ⟨e1,rfl,rfl⟩;obtain⟨p,hp,tp,sp,rfl,h1,h2⟩:=hP.get hx;have es:=Uq (k:=k) (t:=t) hp;rfl';refine ak (ah.of h1) (v:=.str p.1) rfl ?_;rfl';have skip:jI k t p=false->tx H1 bg b lo hi ps k t (i+1) [some (.ref bg),some (.ref b),some (.str k),some (.int t),some (ev (aY (lo,hi) (sel (ps.take i) k t)).1),some (ev (aY (lo,hi) (sel (ps.take i) k t)).2),some (.ref tp)] H1:=λhz=>⟨_,by rw[es,hz,if_neg YN,afD],rfl⟩
   by_cases hk:p.1=k
   .rw[if_pos (by rw[hk])];refine ak (ah.of h1) (v:=.int p.2.1) rfl ?_;rfl';refine aN (λht=>?_) λht=>?_
    .have hz:jI k t p=true:=by unfold jI;rw[decide_eq_true hk,decide_eq_true ht];rfl
     rw[hz,if_pos rfl] at es;have fin:tx H1 bg b lo hi ps k t (i+1) [some (.ref bg),some (.ref b),some (.str k),some (.int t),some (ev (dt (aY (lo,hi) (sel (ps.take i) k t)).1 p.2.2.1)),some (ev (dw (aY (lo,hi) (sel (ps.take i) k t)).2 p.2.2.2)),some (.ref tp)] H1:=⟨_,by rw[es,Ur],rfl⟩
     generalize (aY (lo,hi) (sel (ps.take i) k t)).1=x at fin ⊢;generalize (aY (lo,hi) (sel (ps.take i) k t)).2=y at fin ⊢;obtain⟨pk,pt,pa,pc⟩:=p;dsimp only at fin h1 h2 ⊢;rcases pa with _|pa<;>rcases pc with _|pc<;>rcases x with _|x<;>rcases y with _|y
     all_goals repeat' first
      | exact fin
      | refine ak (ah.of h2) rfl ?_
      | refine ak (ah.of h1) (v:=.ref sp) rfl ?_
      | (walk_at "p")
      | (refine aN (λhc=>?_) λhc=>?_)
     all_goals (simp only[dt,dw] at fin;repeat' split at fin)
     all_goals first|exact fin|(exfalso;lia)
    .refine skip ?_;unfold jI;rw[decide_eq_false ht,aek]
   .rw[if_neg hk];refine skip ?_;unfold jI;rw[decide_eq_false hk,ab4]
  .rintro σ H1 h;exact hN _ _ h
 rintro _ yR σ H1 ⟨e1,rfl,rfl⟩;subst yR;rw[hl,ZR];rfl';exact⟨a7,λp hp=>q _ _ (au hp) ⟨p,rfl,ax⟩⟩
inductive Ut(K:Yp)(B:YC)(vs:List V)(H:Hp)(Q:VK)(aP:XK):Prop
 | mk(x p:YC)(e t u d m i:Int)(tb:Tb)(_:vs=[.ref x,.int i])(_:cb B H x e t u d m p tb)(_:(tb.map (·.1)).Nodup)(_:tb.length<64)(_:(∀ r∈tb,0<=r.1.2))(_:∀ l ys H',aj H H'->H l=none->H' l=some (.lst ys)->az (dQ H') ys (lD tb i)->Q (.ref l) H')
theorem Uu(T:Tx K mg):Ok P w base 2 T.si (Ut K T.aL):=by
 refine bf Hk ?_;rintro _ _ _ s H _ Q _ hr ⟨x,p,e,t,u,d,m,i,tb,rfl,hb,fA,eM,h0,q⟩;refine⟨_,(aw (aA (xI (g:=j7 K 3 (cR (cj 0) (cR (cj 1) (cR (cj 2) ji)))) (kr.mk (own:=["teller","turn","word"]) (fr:=[1]) (ys:=["eye"]) rfl (by decide +kernel) rfl (by decide +kernel) rfl (.cons rfl .nil) (.cons rfl rfl rfl rfl .nil) rfl) rfl (cU (mD (aa 0) T.bG T.HX (Ij T) (hr.mono (by decide)) T.kS.b .nil bO)) (λC s2 H2 ex pn=>j8 (n:=3) rfl (dC (gi (i:=0) (show (["teller","turn","word","eye"]:List Str).Nodup by decide) rfl (.inl (Y1 rfl)) (.inr (Y1 rfl))) (dC (gi (i:=1) (show (["teller","turn","word","eye"]:List Str).Nodup by decide) rfl (.inl (Y1 rfl)) (.inr (Y1 rfl))) (dC (gi (i:=2) (show (["teller","turn","word","eye"]:List Str).Nodup by decide) rfl (.inl (Y1 rfl)) (.inr (Y1 rfl))) j6)))) (λC s2 H2 ex pn=>⟨(gP (bW (aa 0) (aa 3))),(aS (ae (aa 1) (ae (aa 2) ag)))⟩)))),?_⟩;obtain⟨⟨dx,hx⟩,htb⟩:=id hb;rfl';refine⟨_,_,hx,rfl,x,p,e,t,u,d,m,tb,rfl,hb,fA,eM,λl xs H1 s1 _ hl hT=>?_⟩;have tl:=hT.len;rw[oI] at tl;refine⟨l,rfl,⟨_,ai.of hl⟩,Fz (row:=rowOf H1) (Yw (by lia:xs.length<=64) (by decide)) (uT (R:=λ_ x (r:P2 × S2)=>jH H1 x r) (R':=dQ) (p:=λr=>decide (r.1.1=i)) (f:=λr=>(r.1.2.toNat,r.2)) (λ_ _ _ _ _ h=>h) (λ_ _ _ _ s' h=>h.same s') hT (bs:=[]) trivial (λH' s'=>FE hl hT s') (λx r _ H2 s2 h1 Q h=>?_) (λx r bU hp H2 s2 h1 Q h=>?_) λH2 zs s2 hz=>?_)⟩
 .obtain⟨ta,w,rfl,ha,hw⟩:=h1;unfold mR;dsimp only;rw[qQ ha];rfl';exact y0 (Q:=λk=>Q k H2) h
 .obtain⟨ta,w,rfl,ha,wp,rfl,hw⟩:=h1;unfold mS;dsimp only;rw[qQ ha];rfl';have cf:=h0 r (uO bU);refine⟨a7,λt1 kU=>h _ _ (au kU) ⟨t1,wp,rfl,?_,(au kU) _ _ (s2 _ _ hw)⟩⟩;rw[ax];show some (HO.tup [.int r.1.2,.ref wp])=some (.tup [.int ((r.1.2.toNat:Nat):Int),.ref wp]);rw[aaB cf]
 .rw[Y0] at hz;intro l2 bA;exact q l2 zs _ (s1.trans (s2.trans (au bA))) ((s1.trans s2).free bA) ax (hz.imp λ_ _ r=>r.same (au bA))
inductive Uv(K:Yp)(B:YC)(vs:List V)(H:Hp)(Q:VK)(aP:XK):Prop
 | mk(x p o:YC)(e t u d m:Int)(tb:Tb)(es:List Int)(_:vs=[.ref x,.ref o])(_:cb B H x e t u d m p tb)(_:(tb.map (·.1)).Nodup)(_:tb.length<64)(_:(∀ r∈tb,0<=r.1.2))(_:ai K H o (es.map V.int))(_:es.length<=100)(_:∀ l ys H',aj H H'->H' l=some (.lst ys)->az (dQ H') ys (((lB tb).filter λr=>!es.contains r.1.1).map λr=>(r.1.2.toNat,r.2))->Q (.ref l) H')
theorem Uw(T:Tx K mg):Ok P w base 2 T.sk (Uv K T.aL):=by
 refine bf Hl ?_;rintro _ _ _ s H _ Q _ hr ⟨x,p,o,e,t,u,d,m,tb,es,rfl,hb,fA,eM,h0,ho,qU,q⟩;refine⟨_,(aw (aA (xI (g:=j7 K 3 (cR (cj 0) (cR (cj 1) (cR (cj 2) ji)))) (kr.mk (own:=["teller","turn","word"]) (fr:=[1]) (ys:=["some"]) rfl (by decide +kernel) rfl (by decide +kernel) rfl (.cons rfl .nil) (.cons rfl rfl rfl rfl .nil) rfl) rfl (cU (mD (aa 0) T.bG T.HX (Ij T) (hr.mono (by decide)) T.kS.b .nil bO)) (λC s2 H2 ex pn=>j8 (n:=3) rfl (dC (gi (i:=0) (show (["teller","turn","word","some"]:List Str).Nodup by decide) rfl (.inl (Y1 rfl)) (.inr (Y1 rfl))) (dC (gi (i:=1) (show (["teller","turn","word","some"]:List Str).Nodup by decide) rfl (.inl (Y1 rfl)) (.inr (Y1 rfl))) (dC (gi (i:=2) (show (["teller","turn","word","some"]:List Str).Nodup by decide) rfl (.inl (Y1 rfl)) (.inr (Y1 rfl))) j6)))) (λC s2 H2 ex pn=>⟨(gP (jn (Nt (K:=K) rfl) (aa 0) (aa 3) (by with_unfolding_all rfl))),(aS (ae (aa 1) (ae (aa 2) ag)))⟩)))),?_⟩;obtain⟨⟨dx,hx⟩,htb⟩:=id hb;rfl';refine⟨_,_,hx,rfl,x,p,e,t,u,d,m,tb,rfl,hb,fA,eM,λl xs H1 s1 _ hl hT=>?_⟩;have tl:=hT.len;rw[oI] at tl;refine⟨l,rfl,⟨_,ai.of hl⟩,Fz (row:=rowOf H1) (Yw (by lia:xs.length<=64) (by decide)) (uT (R:=λ_ x (r:P2 × S2)=>jH H1 x r) (R':=dQ) (p:=λr=>!es.contains r.1.1) (f:=λr=>(r.1.2.toNat,r.2)) (λ_ _ _ _ _ h=>h) (λ_ _ _ _ s' h=>h.same s') hT (bs:=[]) trivial (λH' s'=>FE hl hT s') (λx r _ H2 s2 h1 Q h=>?_) (λx r bU hp H2 s2 h1 Q h=>?_) λH2 zs s2 hz=>?_)⟩
 .obtain⟨ta,w,rfl,ha,hw⟩:=h1;unfold mR;dsimp only;rw[qQ ha];rfl';refine⟨o,_,rfl,.inl ((s1.trans s2).seq ho),rfl,FD es,_,rfl,?_⟩;rw[yE,if_pos rfl];exact h
 .obtain⟨ta,w,rfl,ha,wp,rfl,hw⟩:=h1;unfold mS;dsimp only;rw[qQ ha];rfl';have cf:=h0 r (uO bU);refine⟨a7,λt1 kU=>h _ _ (au kU) ⟨t1,wp,rfl,?_,(au kU) _ _ (s2 _ _ hw)⟩⟩;rw[ax];show some (HO.tup [.int r.1.2,.ref wp])=some (.tup [.int ((r.1.2.toNat:Nat):Int),.ref wp]);rw[aaB cf]
 .rw[Y0] at hz;intro l2 bA;exact q l2 zs _ (s1.trans (s2.trans (au bA))) ax (hz.imp λ_ _ r=>r.same (au bA))
inductive pB(H:Hp)(v:V)(r:Gp):Prop
 | mk(g k:YC)(zs:List V)(_:v = .ref g)(_:H g=some (.tup [ev r.1,.ref k]))(_:H k=some (.lst zs))(_:az (dQ H) zs r.2)
theorem pB.same(h:pB H v r)(s:aj H H'):pB H' v r:=let ⟨g,k,zs,e,a,b,c⟩:=h;⟨g,k,zs,e,s _ _ a,s _ _ b,c.imp λ_ _ x=>x.same s⟩
inductive Ux(K:Yp)(B:YC)(vs:List V)(H:Hp)(Q:VK)(aP:XK):Prop
 | mk(x p:YC)(e t u d m:Int)(tb:Tb)(_:vs=[.ref x])(_:cb B H x e t u d m p tb)(_:(tb.map (·.1)).Nodup)(_:tb.length<64)(_:(∀ r∈tb,0<=r.1.2))(_:0<=e)(_:e<=7)(_:∀ l ys H',aj H H'->H l=none->H' l=some (.lst ys)->az (pB H') ys ((qZ e.toNat tb).map λr=>(some r.1,r.2))->Q (.ref l) H')
theorem Uy(T:Tx K mg):Ok P w base 3 T.so (Ux K T.aL):=by
 refine bf Hm ?_;rintro _ _ _ s _ _ Q _ hr ⟨x,p,e,t,u,d,m,tb,rfl,hb,fA,eM,bU,h0,h7,q⟩;refine⟨_,(aw (aA (c7 (bP.mk (fr:=[0]) (ys:=["board"]) rfl (by decide +kernel) rfl (by decide +kernel) rfl rfl (.cons rfl .nil) (.cons rfl rfl rfl rfl .nil) (by decide) rfl) rfl (fH rfl T.cQ (ae (ck rfl (aa 0) rfl) ag)) (λC s2 H2 ex pn=>⟨dO,(aS (ae (aa 0) (ae (aF (Uu T) hr (ae (aa 1) (ae (aa 0) ag))) ag)))⟩)))),?_⟩;obtain⟨⟨dx,hx⟩,hp⟩:=id hb;rfl';refine⟨_,_,_,hx,T.bG,T.sV,_,rfl,?_⟩;refine⟨e,rfl,by lia,by lia,cF iL (by rw[Yq,YE];exact Yw (by lia:_<=12) (by decide)) (gq (R:=λ_ x (k:Nat)=>x=V.int ((0:Int)+k)) (R':=pB) (f:=λ(k:Nat)=>((some (k:Int),lD tb (k:Int)):Gp)) (λ_ _ _ _ _ h=>h) (λ_ _ _ _ s' h=>h.same s') (az.fF _) (bs:=[]) trivial (λ_ _=>trivial) (λx k _ H2 s2 r Q h=>?_) (λx k _ H2 s2 r Q h=>?_) λH2 zs s2 hz=>?_)⟩
 .rfl';exact h
 .subst r;rfl';rw[acf];refine⟨x,p,e,t,u,d,m,(k:Int),tb,rfl,hb.same s2,fA,eM,bU,λl ys H3 s3 _ hl hM=>⟨a7,λg hg=>?_⟩⟩;have u1:=au (o:=.tup [.int (k:Int),.ref l]) hg;exact h _ _ (s3.trans u1) ⟨g,l,ys,rfl,ax,u1 _ _ hl,hM.imp λ_ _ x=>x.same u1⟩
 .intro l hl;rw[Y0] at hz;refine q l zs _ (s2.trans (au hl)) (s2.free hl) ax ?_;unfold qZ;rw[ZH];exact hz.imp λ_ _ r=>r.same (au hl)
inductive Uz(K:Yp)(vs:List V)(H:Hp)(Q:VK)(aP:XK):Prop
 | mk(v u:V)(s:S2)(p:P2)(_:vs=[v,u])(_:aK H v s.1 s.2)(_:aR H u p)(_:∀ r H',aj H H'->H r=none->H' r=some (.tup [ev (eN s p).1,ev (eN s p).2])->Q (.ref r) H')
theorem Iu(T:Tx K mg):Ok P w base 1 T.rS (Uz K):=by
 refine bf vq ?_;rintro _ _ _ _ _ _ _ _ hr ⟨v,u,⟨lo,hi⟩,⟨p1,p2⟩,rfl,⟨a,rfl,ha⟩,⟨b,rfl,hb⟩,q⟩;refine⟨_,(ar (aJ 2 vq.nd (nN (dG (aq (aa 0) af)) bH (aG bp (aq (aa 0) af) (aq (aa 1) af))))
  (ar (aJ 3 vq.nd (nN (dG (aq (aa 0) af)) bH (aG bp (aq (aa 0) af) (aq (aa 1) af))))
  (aw (aA (aS (ae (aa 2) (ae (aa 3) ag))))))),?_⟩
 rcases lo with _|lo<;>rcases hi with _|hi
 all_goals simp only[uE,uF] at ha
 all_goals
  rfl'
  repeat' first
  | refine ak (ah.of ha) rfl ?_
  | refine ak (ah.of hb) rfl ?_
  | (walk_at "p")
 all_goals exact⟨a7,λr hr=>q r _ (au hr) hr ax⟩
theorem UA(h:az (λv (s:S2)=>aK H v s.1 s.2) zs ss)(h0:0<ss.length):∃ v,cC zs (-1)=some v/\aK H v (bT ss (ss.length-1)).1 (bT ss (ss.length-1)).2:=by
 have hl:=h.len;obtain⟨v,hv,r⟩:=h.at (Ys (l:=ss) (i:=ss.length-1) (by lia));have e:zs=zs.take (ss.length-1)++[v]:=by have:=aaK (ss.length-1) zs;rw[Zs (by lia),abW (by lia)] at this;rw[Ys (by lia)] at hv;cases hv;exact this.symm
 refine⟨v,by rw[e];exact xb _ _,?_⟩;unfold bT;rw[Yr,Ys (by lia)];exact r
inductive UB(K:Yp)(vs:List V)(H:Hp)(Q:VK)(aP:XK):Prop
 | mk(a b:YC)(xs ys:List V)(ws:List W2)(ps:List P2)(_:vs=[.ref a,.ref b])(_:ai K H a xs)(_:az (fJ H) xs ws)(_:ai K H b ys)(_:bL H ys ps)(_:ws.length<=ps.length+1)(_:ws.length<=1000)(_:(∀ t,t<ws.length->a9 (eQ ws) (aE ps) t=none->∀ H',aj H H'->Q .non H'))(_:((∀ t,t<ws.length->a9 (eQ ws) (aE ps) t≠none)->∀ l zs ss H',aj H H'->H l=none->H' l=some (.lst zs)->az (qS H') zs ss->ss.length=ws.length->(∀ t,t<ws.length->a9 (eQ ws) (aE ps) t=some (bT ss t))->Q (.ref l) H'))
inductive Iv(H:Hp)(a b l:YC)(ws:List W2)(ps:List P2)(i:Nat)(σ:St)(H1:Hp):Prop
 | mk(zs:List V)(ss:List S2)(e1 e2 e3:Option V)(_:σ=[some (.ref a),some (.ref b),some (.ref l),e1,e2,e3])(_:aj H H1)(_:H1 l=some (.lst zs))(_:az (qS H1) zs ss)(_:ss.length=i)(_:∀ t,t<i->a9 (eQ ws) (aE ps) t=some (bT ss t))
theorem Iw(T:Tx K mg):Ok P w base 3 T.rT (UB K):=by
 refine bf m8 ?_;rintro _ _ _ _ H _ _ _ hr ⟨a,b,xs,ys,ws,ps,rfl,hS,hW,hT,hP,hl,hn,q0,q⟩;refine⟨_,(ar (aJ 2 m8.nd (cX ag))
  (ar (cu Zd rfl (xS rfl T.vB (ae (aa 0) ag)) (j8 rfl (dC (bX 3 m8.nd) (dC (bX 4 m8.nd) j6))) (ar (aJ 5 m8.nd (aa 4))
    (ar (aI (PW.pt (gh (vh (aa 3) af) (gI (fT (aa 4))))) (aw (aJ 5 m8.nd (aF (AY T) hr (ae (aa 4) (ae (aF (Iu T) hr (ae (aq (aa 2) (gL hU af)) (ae (aq (aa 1) (aG da (aa 3) af)) ag))) ag))))) aH)
    (ar (aI (dG (aa 5)) (aw (aA bH)) aH)
    (aw (dS (ju Zk ZX ZY nV (aa 2) (ae (aa 5) ag))))))))
  (aw (aA (aa 2))))),?_⟩
 have l1:=hW.len;have l2:=hP.len;rfl';refine⟨by decide,λl fD=>?_⟩;have s1:=au (o:=.lst []) fD;have e1:upd H l (.lst []) l=some (.lst []):=ax;generalize upd H l (.lst [])=H1 at s1 e1 ⊢;rfl';refine⟨⟨_,s1.seq hS⟩,xW (xs:=xs) (Iv H a b l ws ps) ⟨[],[],_,_,_,rfl,s1,e1,trivial,rfl,λt h=>absurd h (aad _)⟩ ?_ ?_ ?_⟩
 .rintro i σ H2 _ ⟨_,_,_,_,_,_,s2,_⟩;exact s2.seq hS
 .rintro i x σ H2 p hx ⟨zs,ss,d1,d2,d3,rfl,s2,bA,hz,hlen,gF⟩ hp;obtain⟨w,hw,r⟩:=hW.get hx;have sp:=au (o:=.tup [.int i,x]) hp;refine mI (ah.of ax) ?_;generalize upd H2 p (.tup [.int i,x])=H3 at sp ⊢;have s3:=s2.trans sp;have r3:=r.same s3;have dg:=sp _ _ bA;have dh:=hz.imp λ_ _ r=>aK.same r sp;have zl:=hz.len;have ew:eQ ws i=w:=by unfold eQ;rw[Yr,hw];rfl
  have hi:=(Yx.mp hx).1;have add:∀ (v:V) (k:S2) (H4:Hp) (d1 d2 d3:Option V),aj H3 H4->aK H4 v k.1 k.2->a9 (eQ ws) (aE ps) i=some k->Iv H a b l ws ps (i+1) [some (.ref a),some (.ref b),some (.ref l),d1,d2,d3] (upd H4 l (.lst (zs++[v]))):=λv k H4 d1 d2 d3 s4 hv ek=>by
   have A6:=s4 _ _ dg;refine⟨zs++[v],ss++[k],d1,d2,d3,rfl,jw fD (s3.trans s4),ax,?_,by rw[YO,YY,hlen],λt ht=>?_⟩
   .exact ((dh.imp λ_ _ r=>aK.same r s4).snoc hv).imp λ_ _ r=>aK.put r A6
   .unfold bT;rw[Yr];by_cases e:t=i
    .subst e;rw[ek,Zz (by lia),hlen,aea];rfl
    .rw[gF t (by lia),Zl (by lia)];unfold bT;rw[Yr]
  cases w with
  | none =>
   obtain rfl:x = .non:=r3;have e0:a9 (eQ ws) (aE ps) i=none:=by
    cases i with
    | zero=>exact ew
    | succ i=>unfold a9;rw[ew]
   rfl';have fin:=q0 i (by lia) e0 _ s3;exact aN (λ_=>fin) λ_=>fin
  | some k =>
   obtain⟨rp,rfl,hrp⟩:=id (show aK H3 x k.1 k.2 from r3);cases i with
   | zero =>
    rfl';exact⟨.inl ⟨rfl,_,ai.of dg⟩,_,dg,ZE (by lia:zs.length<=1000) (by decide),add _ k _ _ _ _ (aj.refl _) r3 ew⟩
   | succ i =>
    rfl';rw[if_pos (by lia)];obtain⟨v,hv,rv⟩:=UA (ss:=ss) dh (by lia);obtain⟨u,hu,ru⟩:=hP.at (Ys (l:=ps) (i:=i) (by lia));have ep:ps[i]'(by lia)=aE ps i:=by unfold aE;rw[Yr,Ys (by lia)];rfl
    rw[ep] at ru;rw[show (((i+1:Nat):Int)-1)=((i:Nat):Int) by lia];refine bz (ai.of dg) hv (bz (s3.seq hT) (cZ hu) ?_);rw[hlen,Nat.add_sub_cancel] at rv;refine⟨v,u,bT ss i,aE ps i,rfl,rv,ru.same s3,λr H4 s4 _ UC=>?_⟩;refine⟨_,_,k.1,k.2,_,_,rfl,⟨rp,rfl,s4 _ _ hrp⟩,⟨r,rfl,UC⟩,λy H5 s5 hy=>?_⟩;have ek:=gF i (by lia);have en:a9 (eQ ws) (aE ps) (i+1)=gX k (eN (bT ss i) (aE ps i)):=by
     show (match eQ ws (i+1),a9 (eQ ws) (aE ps) i with
      | some b,some k=>gX b (eN k (aE ps i))
      | _,_=>none)=_
     rw[ew,ek]
    have tD:=(s4.trans s5) _ _ dg;unfold gX at en;cases hc:aW (dt k.1 (eN (bT ss i) (aE ps i)).1) (dw k.2 (eN (bT ss i) (aE ps i)).2) with
    | true =>
     rw[if_pos hc] at en;obtain rfl:=hy.1 hc;rfl';exact q0 (i+1) (by lia) en _ (s3.trans (s4.trans s5))
    | false =>
     rw[if_neg (by rw[hc];simp)] at en;have vM:=hy.2 hc;obtain⟨yp,rfl,hyp⟩:=id vM;rfl';exact⟨.inl ⟨rfl,_,ai.of tD⟩,_,tD,ZE (by lia:zs.length<=1000) (by decide),add _ _ _ _ _ _ (s4.trans s5) vM en⟩
 .rintro σ H2 ⟨zs,ss,d1,d2,d3,rfl,s2,bA,hz,hlen,gF⟩;rfl';rw[l1] at hlen gF;exact q (λt ht=>by rw[gF t ht];simp) l zs ss H2 s2 fD bA hz hlen gF
inductive UD(K:Yp)(vs:List V)(H:Hp)(Q:VK)(aP:XK):Prop
 | mk(a:YC)(xs:List V)(ms:List Mk)(t:Nat)(_:vs=[.ref a,.int t])(_:ai K H a xs)(_:az (dQ H) xs ms)(_:ms.length<=1000)(_:∀ l ys H',aj H H'->H' l=some (.lst ys)->lz H' ys (atT ms t)->Q (.ref l) H')
theorem UE(T:Tx K mg):Ok P w base 1 T.rV (UD K):=by
 refine bf Hh ?_;rintro _ _ _ s H _ Q _ _ ⟨a,xs,ms,t,rfl,hS,hM,hn,q⟩;refine⟨_,(aw (aA (c7 (bP.mk (fr:=[1]) (ys:=["turn"]) rfl (by decide +kernel) rfl (by decide +kernel) rfl rfl (.cons rfl .nil) (.cons rfl rfl rfl rfl .nil) (by decide) rfl) rfl (cU (aa 0)) (λC s2 H2 ex pn=>⟨(gP (bW (cI (K:=K) (aa 0) af) (aa 1))),(cI (K:=K) (aa 0) af)⟩)))),?_⟩;have hl:=hM.len;rfl';refine⟨⟨_,hS⟩,cF iK (Yw (by lia:xs.length<=1000) (by decide)) (oJ (R:=dQ H) (R':=λv (s:S2)=>aK H v s.1 s.2) (p:=λm=>decide (m.1=t)) (f:=λm=>m.2) hS hM (λx m r Q h=>?_) (λx m hp r Q h=>?_) λzs hz=>?_)⟩
 .obtain⟨tp,sp,rfl,h1,h2⟩:=r;rfl';refine ak (ah.of h1) rfl ?_;rfl';refine y0 (Q:=λk=>Q k H) ?_;rw[show decide ((m.1:Int)=(t:Int))=decide (m.1=t) from decide_eq_decide.mpr (by lia)];exact h
 .obtain⟨tp,sp,rfl,h1,h2⟩:=r;rfl';exact ak (ah.of h1) rfl (h _ ⟨sp,rfl,h2⟩)
 .rw[Y0];intro l hl;exact q l zs _ (au hl) ax (lC.mpr (hz.imp λ_ _ r=>r.same (au hl)))
theorem az.rev:∀ {xs:List V} {as:List α},az R xs as->az R xs.reverse as.reverse
 | [],[],_=>trivial
 | x::xs,a::as,h=>by rw[abZ,abZ];exact (az.rev h.2).app ⟨h.1,trivial⟩
 | [],_::_,h=>h.elim
 | _::_,[],h=>h.elim
inductive UG(K:Yp)(vs:List V)(H:Hp)(Q:VK)(aP:XK):Prop
 | mk(a b:YC)(xs ys:List V)(ps:List P2)(ms:List Mk)(_:vs=[.ref a,.ref b])(_:ai K H a xs)(_:bL H xs ps)(_:ai K H b ys)(_:az (dQ H) ys ms)(_:d8 ps)(_:ps.length<=900)(_:ms.length<=1000)(_:(∀ t,t<=ps.length->a9 (b9 ms) (aE ps) t=none->∀ H',aj H H'->Q .non H'))(_:((∀ t,t<=ps.length->a9 (b9 ms) (aE ps) t≠none)->∀ l zs ss H',aj H H'->H l=none->H' l=some (.lst zs)->az (qS H') zs ss->ss.length=ps.length+1->(∀ t,t<=ps.length->fP ps.length (b9 ms) (aE ps) t=some (bT ss t))->Q (.ref l) H'))
theorem UH(T:Tx K mg):Ok P w base 4 T.rW (UG K):=by
 refine bf vt ?_;rintro _ _ _ s H _ Q _ hr ⟨a,b,xs,ys,ps,ms,rfl,hS,hP,hT,hM,ay,hn,hm,q0,q⟩;refine⟨_,(ar (aJ 2 vt.nd (aF (Iw T) hr (ae (c7 (bP.mk (fr:=[1]) (ys:=["marks"]) rfl (by decide +kernel) rfl (by decide +kernel) rfl rfl (.cons rfl .nil) (.cons rfl rfl rfl rfl .nil) (by decide) rfl) rfl (fH rfl T.cQ (ae (aG bp (aZ cV (by rfl) T.cJ cD (ae (aa 0) ag)) af) ag)) (λC s2 H2 ex pn=>⟨dO,(aF (A2 T) hr (ae (aF (UE T) hr (ae (aa 1) (ae (aa 0) ag))) ag))⟩)) (ae (aa 0) ag))))
  (ar (aI (dG (aa 2)) (aw (aA bH)) aH)
  (ar (qA (i:=3) (bP.mk (fr:=[]) (ys:=[]) rfl (by decide +kernel) rfl (by decide +kernel) rfl rfl .nil .nil (by decide) rfl) rfl vt.nd rfl rfl (NL rfl T.Ss (ae (aa 0) ag)) (λC s2 H2 ex pn=>⟨dO,(aS (ae (gL hU (cI (K:=K) (aa 0) af)) (ae (gL hU (cI (K:=K) (aa 0) af)) ag)))⟩))
  (aw (aA (FC (aF (Iw T) hr (ae (FC (aa 2) (gL hU af)) (ae (aa 3) ag))) (gL hU af))))))),?_⟩
 have l1:=hP.len;rfl';refine⟨_,dY hS,by lia,by lia,?_⟩;rw[l1,show ((ps.length:Int)+1).toNat=ps.length+1 by lia];refine cF iL (by rw[Yq,YE];exact Yw (by lia:_<=901) (by decide)) (gq (R:=λ_ x (k:Nat)=>x=V.int ((0:Int)+k)) (R':=fJ) (f:=λ(k:Nat)=>b9 ms k) (λ_ _ _ _ _ h=>h) (λ_ _ _ _ s' h=>h.same s') (az.fF _) (bs:=[]) trivial (λ_ _=>trivial) (λx k _ H2 s2 r Q h=>?_) (λx k _ H2 s2 r Q h=>?_) λH2 zs s2 hz=>?_)
 .rfl';exact h
 .subst r;rfl';rw[show (0:Int)+(k:Nat)=((k:Nat):Int) by lia];refine⟨b,ys,ms,k,rfl,s2.seq hT,hM.imp λ_ _ r=>r.same s2,hm,λl zs H3 s3 hl hs=>?_⟩;refine⟨l,zs,_,rfl,ai.of hl,hs,?_,λv H4 s4 hv=>h H4 v (s3.trans s4) hv⟩;rw[hs.len];unfold atT;rw[Yq];exact Yw (Y2 _ _) hm
 rw[Y0] at hz;intro c hc;have s3:=s2.trans (au (o:=.lst zs) hc);have c3:upd H2 c (.lst zs) c=some (.lst zs):=ax;have dh:=hz.imp λ_ _ r=>r.same (au (o:=.lst zs) hc);generalize upd H2 c (.lst zs)=H3 at s3 c3 dh ⊢;clear hz hc s2;have wl:((YZ (ps.length+1)).map λ(k:Nat)=>b9 ms k).length=ps.length+1:=by rw[Yq,YE]
 have we:∀ t,t<=ps.length->eQ ((YZ (ps.length+1)).map λ(k:Nat)=>b9 ms k) t=b9 ms t:=λt ht=>by unfold eQ;rw[Yr,YG,ZT (by lia)];rfl
 have ne:∀ t,t<=ps.length->a9 (eQ ((YZ (ps.length+1)).map λ(k:Nat)=>b9 ms k)) (aE ps) t=a9 (b9 ms) (aE ps) t:=λt ht=>yC t (λk hk=>we k (by lia)) λk _=>rfl;refine⟨c,a,zs,xs,_,ps,rfl,ai.of c3,dh,s3.seq hS,hP.same s3,by rw[wl];exact Yz _,by rw[wl];lia,λt ht en H4 s4=>?_,λbF l kW ss H4 s4 _ hl A7 kj gF=>?_⟩
 .rw[wl] at ht;rw[ne t (by lia)] at en;rfl';exact q0 t (by lia) en _ (s3.trans s4)
 rw[wl] at bF gF kj;have Iy:∀ t,t<=ps.length->a9 (b9 ms) (aE ps) t≠none:=λt ht z=>bF t (by lia) (by rw[ne t ht];exact z);have UI:∀ t,t<ps.length+1->a9 (b9 ms) (aE ps) t=some (bT ss t):=λt ht=>by rw[<- ne t (by lia)];exact gF t ht
 have TB:=Fy ay Iy;have S4:=s3.trans s4;rfl';refine⟨xs,S4.seq hS,PL (Yw (by lia:_<=900) (by decide)) (gq (R:=aR) (R':=aR) (f:=λp=>(-p.2,-p.1)) (λ_ _ _ _ s' h=>h.same s') (λ_ _ _ _ s' h=>h.same s') (az.rev (hP.same S4)) (bs:=[]) trivial (λH' s'=>(S4.trans s').seq hS) (λx k _ H2 s2 r Q h=>?_) (λx k _ H2 s2 r Q h=>?_) λH5 bs s5 hb=>?_)⟩
 .rfl';exact h
 .obtain⟨t,rfl,ht⟩:=r;rfl';refine ak (ah.of ht) rfl ?_;rfl';refine ak (ah.of ht) rfl ?_;rfl';exact⟨a7,λp hp=>h _ _ (au hp) ⟨p,rfl,ax⟩⟩
 rw[Y0] at hb;intro d hd;have s6:=s5.trans (au (o:=.lst bs) hd);have d6:upd H5 d (.lst bs) d=some (.lst bs):=ax;have Iz:bL (upd H5 d (.lst bs)) bs (kC ps):=hb.imp λ_ _ r=>r.same (au (o:=.lst bs) hd);generalize upd H5 d (.lst bs)=H6 at s6 d6 Iz ⊢;clear hb hd s5;refine⟨kW,ai.of (s6 _ _ hl),λp hp=>?_⟩;have s7:=s6.trans (au (o:=.lst kW.reverse) hp);have p7:upd H6 p (.lst kW.reverse) p=some (.lst kW.reverse):=ax;have d7:=(au (o:=.lst kW.reverse) hp) _ _ d6;have IA:bL (upd H6 p (.lst kW.reverse)) bs (kC ps):=Iz.same (au (o:=.lst kW.reverse) hp);generalize upd H6 p (.lst kW.reverse)=H7 at s7 p7 d7 IA ⊢;have rl:(ss.reverse.map some).length=ps.length+1:=by rw[Yq,Z9,kj]
 have bl:(kC ps).length=ps.length:=by unfold kC;rw[Yq,Z9]
 have be:∀ t,t<=ps.length->a9 (eQ (ss.reverse.map some)) (aE (kC ps)) t=fP ps.length (b9 ms) (aE ps) (ps.length-t):=λt ht=>back_eq kj UI ht;refine⟨p,d,_,bs,ss.reverse.map some,kC ps,rfl,ai.of p7,az.Fg (az.rev (A7.imp λ_ _ r=>aK.same r s7)),ai.of d7,IA,by rw[rl,bl];exact Yz _,by rw[rl];lia,λt ht en H8 s8=>?_,λ_ l3 A8 UJ H8 s8 Ye dg UK A9 IB=>?_⟩
 .rw[rl] at ht;rw[be t (by lia)] at en;obtain⟨z,ez,_⟩:=TB.ok (ps.length-t) (by lia);rw[en] at ez;cases ez
 rw[rl] at A9 IB;have S8:=S4.trans (s7.trans s8);refine⟨l3,rfl,A8,ai.of dg,λp3 tE=>q Iy p3 _ UJ.reverse _ (S8.trans (au tE)) (S8.free tE) ax (az.rev (UK.imp λ_ _ r=>aK.same r (au tE))) (by rw[Z9,A9]) λt ht=>?_⟩;rw[Pz A9 ht,<- IB (ps.length-t) (by lia),be _ (by lia),show ps.length-(ps.length-t)=t by lia]
inductive UL(K:Yp)(vs:List V)(H:Hp)(Q:VK)(aP:XK):Prop
 | mk(a b:YC)(xs ys:List V)(ps:List P2)(ms:List Mk)(_:vs=[.ref a,.ref b])(_:ai K H a xs)(_:bL H xs ps)(_:ai K H b ys)(_:az (dQ H) ys ms)(_:d8 ps)(_:ps.length<=900)(_:ms.length<=1000)(_:(∀ m∈ms,m.1<=ps.length))(_:((¬ ∃ c,gZ ps c/\meets ms c)->∀ H',aj H H'->Q .non H'))(_:(∀ l cs H',aj H H'->H l=none->H' l=some (.lst (cs.map V.int))->cs.length=ps.length+1->gZ ps (bo cs)->meets ms (bo cs)->Q (.ref l) H'))
inductive UM(H:Hp)(a b x l c:YC)(zs:List V)(ss:List S2)(ps:List P2)(ms:List Mk)(i:Nat)(σ:St)(H1:Hp):Prop
 | mk(cs:List Int)(e1 e2:Option V)(_:σ=[some (.ref a),some (.ref b),some (.ref x),some (.ref l),e1,e2])(_:aj H H1)(_:H1 l=some (.lst (cs.map V.int)))(_:H1 c=some (.lst (zs.drop 1)))(_:az (qS H1) zs ss)(_:cs.length=i+1)(_:(∀ t,t<=i->c8 (fP ps.length (b9 ms) (aE ps) t) (bo cs t)))(_:∀ k,k<i->(aE ps k).1<=bo cs (k+1)-bo cs k/\bo cs (k+1)-bo cs k<=(aE ps k).2)
theorem vN(h:t<cs.length):bo (cs++[n]) t=bo cs t:=by unfold bo;rw[Yr,Yr,Zl h]
theorem IC(h:cs.length=t):bo (cs++[n]) t=n:=by unfold bo;rw[Yr,Zz (by lia),h,aea];rfl
theorem UN{cs:List Int}{i:Nat}(h:cs.length=i+1):cC (cs.map V.int) (-1)=some (.int (bo cs i)):=by
 have e:cs=cs.take i++[bo cs i]:=by have:=aaK i cs;rw[Zs (by lia),abW (by lia)] at this;unfold bo;rw[Yr,Ys (by lia)];exact this.symm
 have e2:cs.map V.int=(cs.take i).map V.int++[V.int (bo cs i)]:=(congrArg (List.map V.int) e).trans (by rw[Z1];rfl);rw[e2];exact xb _ _
theorem ID(h:aW s.1 s.2=false):bD s (kD s):=yn.mpr (PM h)
theorem IE(h:i<ss.length):ss[i]?=some (bT ss i):=by unfold bT;rw[Yr,Ys h];rfl
theorem Ba(h:i<ps.length):ps[i]?=some (aE ps i):=by unfold aE;rw[Yr,Ys h];rfl
theorem UO(T:Tx K mg):Ok P w base 5 T.rX (UL K):=by
 refine bf o8 ?_;rintro _ _ _ s H _ _ _ hr ⟨a,b,xs,ys,ps,ms,rfl,hS,hP,hT,hM,ay,hn,hm,ht,q0,q⟩;refine⟨_,(ar (aJ 2 o8.nd (aF (UH T) hr (ae (aa 0) (ae (aa 1) ag))))
  (ar (aI (dG (aa 2)) (aw (aA bH)) aH)
  (ar (aJ 3 o8.nd (cX (ae (aF (Im T) hr (ae (aq (aa 2) af) ag)) ag)))
  (ar (cu Zd rfl (D3 rfl T.HR (ae (aa 0) (ae (CP CZ (aa 2) (w9 af) Lx) ag))) (j8 rfl (dC (bX 4 o8.nd) (dC (bX 5 o8.nd) j6))) (aw (dS (ju Zk ZX ZY nV (aa 3) (ae (aF (Im T) hr (ae (aF (AY T) hr (ae (aa 5) (ae (aF (Iu T) hr (ae (aS (ae (aq (aa 3) (gL hU af)) (ae (aq (aa 3) (gL hU af)) ag))) (ae (aa 4) ag))) ag))) ag)) ag)))))
  (aw (aA (aa 3))))))),?_⟩
 have l1:=hP.len;rfl';refine⟨a,b,xs,ys,ps,ms,rfl,hS,hP,hT,hM,ay,hn,hm,λt ht en H1 s1=>?_,λbF x zs ss H1 s1 fx hx hz kj gF=>?_⟩
 .rfl';refine q0 ?_ _ s1;rintro ⟨c,hc,km⟩;exact Px hc km t ht en
 have TB:=Fy ay bF;have zl:=hz.len;have UP:∀ t,t<=ps.length->aW (bT ss t).1 (bT ss t).2=false:=λt ht=>by obtain⟨s,es,hs⟩:=TB.ok t ht;rw[gF t ht] at es;cases es;exact hs
 rfl';obtain⟨v0,Bb,r0⟩:=hz.at (IE (ss:=ss) (i:=0) (by lia));refine bz (ai.of hx) (cZ (j:=0) Bb) ?_;refine⟨v0,bT ss 0,rfl,r0,by decide,λl fD=>?_⟩;have u1:=au (o:=.lst [.int (kD (bT ss 0))]) fD;have L1:upd H1 l (.lst [.int (kD (bT ss 0))]) l=some (.lst ([kD (bT ss 0)].map V.int)):=ax;have fl:=s1.free fD;generalize upd H1 l (.lst [.int (kD (bT ss 0))])=H2 at u1 L1 ⊢;refine⟨zs,ai.of (u1 _ _ hx),λc hc=>?_⟩;rw[show jr zs (some 1) none=zs.drop 1 from N5 zs 1];have u2:=au (o:=.lst (zs.drop 1)) hc;have c3:upd H2 c (.lst (zs.drop 1)) c=some (.lst (zs.drop 1)):=ax;have lc:l≠c:=λz=>by rw[<- z,L1] at hc;cases hc
 generalize upd H2 c (.lst (zs.drop 1))=H3 at u2 c3 ⊢;have S3:=s1.trans (u1.trans u2);refine⟨⟨_,S3.seq hS⟩,⟨_,ai.of c3⟩,NV (xs:=xs) (ys:=zs.drop 1) (UM H a b x l c zs ss ps ms) ⟨[kD (bT ss 0)],_,_,rfl,S3,u2 _ _ L1,c3,hz.imp λ_ _ r=>aK.same r (u1.trans u2),rfl,λt ht=>?_,λk hk=>absurd hk (aad _)⟩ ?_ ?_ ?_⟩
 .obtain rfl:t=0:=by lia
  exact⟨_,gF 0 (by lia),ID (UP 0 (by lia))⟩
 .rintro i σ H4 ⟨_,_,_,_,s4,_,c4,_⟩;exact⟨s4.seq hS,ai.of c4⟩
 .rintro i u v σ H4 p hu hv ⟨cs,d1,d2,rfl,s4,L4,c4,nz,bq,bI,cn⟩ hp;have hi:i<ps.length:=by have:=(Yx.mp hu).1;lia
  obtain⟨pt,ept,ru⟩:=hP.get hu;rw[Ba hi] at ept;cases ept;rw[aeY,Nat.add_comm 1 i] at hv;obtain⟨sv,esv,rv⟩:=nz.get hv;rw[IE (by lia)] at esv;cases esv;refine mI (ah.of ax) ?_;have up:=au (o:=.tup [u,v]) hp;generalize upd H4 p (.tup [u,v])=H5 at up ⊢;have L5:=up _ _ L4;rfl';have lst:=UN bq;refine⟨.inl ⟨rfl,_,ai.of L5⟩,bz (ai.of L5) lst (bz (ai.of L5) lst ⟨a7,λt1 kU=>?_⟩)⟩;have ut:=au (o:=.tup [.int (bo cs i),.int (bo cs i)]) kU;refine⟨.ref t1,u,(some (bo cs i),some (bo cs i)),aE ps i,rfl,⟨t1,rfl,ax⟩,ru.same (s4.trans (up.trans ut)),λr H6 s6 _ UQ=>?_⟩;obtain⟨m,em,cO⟩:=PB TB hi (bI i (Yz _)) (gF (i+1) (by lia));have UR:=aK.same rv (up.trans (ut.trans s6));refine⟨v,.ref r,_,_,_,_,rfl,UR,⟨r,rfl,UQ⟩,λy H7 s7 hy=>?_⟩;have cm:=Fl em;have IF:aW (dt (bT ss (i+1)).1 (eN (some (bo cs i),some (bo cs i)) (aE ps i)).1) (dw (bT ss (i+1)).2 (eN (some (bo cs i),some (bo cs i)) (aE ps i)).2)=false/\m=(dt (bT ss (i+1)).1 (eN (some (bo cs i),some (bo cs i)) (aE ps i)).1,dw (bT ss (i+1)).2 (eN (some (bo cs i),some (bo cs i)) (aE ps i)).2):=by
   unfold gX at em;split at em
   .cases em
   .rename_i hc;cases em;exact⟨by simpa using hc,rfl⟩
  have vM:=hy.2 IF.1;refine⟨y,m,rfl,by rw[IF.2];exact vM,?_⟩;have S7:=up.trans (ut.trans (s6.trans s7));have L7:=S7 _ _ L4;obtain⟨n1,n2,n3⟩:=cO _ (ID cm);refine⟨_,L7,by rw[Yq];exact ZE (by lia:_<=1000) (by decide),cs++[kD m],_,_,rfl,jw fl (s4.trans S7),by rw[ax,Z1];rfl,by rw[aD (Zj lc)];exact S7 _ _ c4,nz.imp λ_ _ r=>aK.put (aK.same r S7) L7,by rw[YO,YY];lia,λt ht=>?_,λk hk=>?_⟩
  .by_cases e:t=i+1
   .subst e;rw[IC bq];exact n1
   .rw[vN (by lia)];exact bI t (by lia)
  .by_cases e:k=i
   .subst e;rw[IC bq,vN (by lia)];exact⟨n2,n3⟩
   .rw[vN (by lia),vN (by lia)];exact cn k (by lia)
 .rintro σ H4 ⟨cs,d1,d2,rfl,s4,L4,c4,nz,bq,bI,cn⟩;rfl';rw[abv,show min xs.length (zs.length-1)=ps.length by lia] at bq bI cn;exact q l cs H4 s4 fl L4 bq cn (meets_of TB ht bI)
def dB(H:Hp)(v:V):Option P2->Prop
 | none=>v = .non
 | some p=>aR H v p
theorem dB.same(h:dB H v o)(s:aj H H'):dB H' v o:=by
 cases o with
 | none=>exact h
 | some p=>exact aR.same h s
inductive US(K:Yp)(vs:List V)(H:Hp)(Q:VK)(aP:XK):Prop
 | mk(v u:V)(a b:Option P2)(_:vs=[v,u])(_:dB H v a)(_:dB H u b)(_:∀ x,dB H x (jJ a b)->(x=v∨x=u)->Q x H)
theorem Bc(T:Tx K mg):Ok P w base 1 T.rY (US K):=by
 refine bf Hi ?_;rintro _ _ _ _ H _ _ _ hr ⟨v,u,a,b,rfl,ha,hb,q⟩;refine⟨_,(ar (aI (PW.pt (bZ (dG (aa 0)) (dJ (dG (aa 1))))) (aw (aA (nN (dG (aa 0)) (aa 1) (aa 0)))) aH)
  (aw (aA (aZ (Qk rfl (eY hr)) (by rfl) T.sR qp (ae (aa 0) (ae (aa 1) ag)))))),?_⟩
 rcases a with _|a<;>rcases b with _|b
 .obtain rfl:v = .non:=ha;obtain rfl:u = .non:=hb;rfl';exact q _ rfl (.inl rfl)
 .obtain rfl:v = .non:=ha;obtain⟨r,rfl,cf⟩:=id hb;rfl';exact q _ hb (.inr rfl)
 .obtain rfl:u = .non:=hb;obtain⟨r,rfl,cf⟩:=id ha;rfl';exact q _ ha (.inl rfl)
 .obtain⟨r,rfl,cf⟩:=id ha;obtain⟨r2,rfl,gG⟩:=id hb;rfl';refine⟨a,cf,b,gG,?_⟩;by_cases hl:fe b a=true
  .rw[if_pos hl];exact q _ (by show aR H _ (ff a b);unfold ff;rw[if_pos hl];exact hb) (.inr rfl)
  .rw[if_neg hl];exact q _ (by show aR H _ (ff a b);unfold ff;rw[if_neg hl];exact ha) (.inl rfl)
inductive UT(K:Yp)(vs:List V)(H:Hp)(Q:VK)(aP:XK):Prop
 | mk(v:V)(a:Option P2)(b:Int)(_:vs=[v,.int b])(_:dB H v a)(_:∀ x H',aj H H'->dB H' x (oM a b)->Q x H')
theorem IG(T:Tx K mg):Ok P w base 1 T.rZ (UT K):=by
 refine bf Hj ?_;rintro _ _ _ _ _ _ _ _ _ ⟨v,a,b,rfl,ha,q⟩;refine⟨_,(aw (aA (nN (dG (aa 0)) bH (aS (ae (aG bp (aq (aa 0) af) (aa 1)) (ae (aq (aa 0) af) ag)))))),?_⟩;rcases a with _|a
 .obtain rfl:v = .non:=ha;rfl';exact q _ _ (aj.refl _) rfl
 .obtain⟨r,rfl,cf⟩:=id ha;rfl';refine ak (ah.of cf) rfl ?_;rfl';refine ak (ah.of cf) rfl ⟨a7,λp hp=>q _ _ (au hp) ⟨p,rfl,ax⟩⟩
inductive UU(K:Yp)(vs:List V)(H:Hp)(Q:VK)(aP:XK):Prop
 | mk(a b:YC)(xs ys:List V)(ps:List P2)(ms:List Mk)(_:vs=[.ref a,.ref b])(_:ai K H a xs)(_:bL H xs ps)(_:ai K H b ys)(_:az (dQ H) ys ms)(_:d8 ps)(_:ps.length<=900)(_:ms.length<=1000)(_:(∀ m∈ms,m.1<=ps.length))(_:∀ l zs ts H',aj H H'->H l=none->H' l=some (.lst zs)->az (dB H') zs ts->ts.length=ps.length+1->kA ps ms (dz ts)->Q (.ref l) H')
inductive nA(P:Nat->(Nat->Option P2)->Prop)(H:Hp)(a b l:YC)(n:Nat)(i:Nat)(σ:St)(H1:Hp):Prop
 | mk(zs:List V)(ts:List (Option P2))(e1 e2 e3:Option V)(_:σ=[some (.ref a),some (.ref b),some (.ref l),e1,e2,e3])(_:aj H H1)(_:H1 l=some (.lst zs))(_:az (dB H1) zs ts)(_:ts.length=n+1)(_:P i (dz ts))
theorem dB.put(h:dB H v o)(hl:H l=some (.lst ys)):dB (upd H l (.lst zs)) v o:=by
 cases o with
 | none=>exact h
 | some p=>exact aR.put h hl
theorem az.IH{α:Type}{R:V->α->Prop}{x:V}{a:α}(r:R x a):∀ {xs:List V} {as:List α} (j:Nat),az R xs as->az R (xs.set j x) (as.set j a)
 | [],[],_,_=>trivial
 | _::_,_::_,0,h=>⟨r,h.2⟩
 | _::_,_::_,j+1,h=>⟨h.1,az.IH r j h.2⟩
 | [],_::_,_,h=>h.elim
 | _::_,[],_,h=>h.elim
theorem pC(h:az (dB H) zs ts)(ht:t<ts.length):∃ v,cC zs (t:Int)=some v/\dB H v (dz ts t):=by obtain⟨v,hv,r⟩:=h.at (Ys ht);refine⟨v,cZ hv,?_⟩;unfold dz;rw[Yr,Ys ht];exact r
theorem Be(h:t<n):iz n (t:Int)=some t:=by unfold iz;rw[if_pos (by lia),if_pos (by lia),Zm]
theorem Bf(fD:H l=none)(s:aj H H1)(hl:H1 l=some (.lst zs))(hz:az (dB H1) zs ts)(hlen:ts.length=n+1)(hv:dB H1 v x)(ht:t<n+1)(hP:P i (jK (dz ts) t x)):nA P H a b l n i [some (.ref a),some (.ref b),some (.ref l),d1,d2,d3] (upd H1 l (.lst (zs.set t v))) :=
 ⟨zs.set t v,ts.set t x,d1,d2,d3,rfl,jw fD s,ax,(az.IH hv t hz).imp λ_ _ r=>r.put hl,by rw[adZ];exact hlen,by rw[PD (by lia)];exact hP⟩
theorem UW(n:Nat):lx ((n:Int)-1) (-1) (-1)=n:=by unfold lx Zr;simp only[show ¬ ((-1:Int) > 0) by lia,if_false,show (- (-1:Int))=1 by lia,agA];split<;>lia
theorem UX(T:Tx K mg):Ok P w base 2 T.se (UU K):=by
 refine bf m9 ?_;rintro _ _ _ _ H _ Q _ hr ⟨a,b,xs,ys,ps,ms,rfl,hS,hP,hT,hM,ay,hn,hm,ht,q⟩;refine⟨_,(ar (qA (i:=2) (bP.mk (fr:=[]) (ys:=[]) rfl (by decide +kernel) rfl (by decide +kernel) rfl rfl .nil .nil (by decide) rfl) rfl m9.nd rfl rfl (fH rfl T.cQ (ae (aG bp (aZ cV (by rfl) T.cJ cD (ae (aa 0) ag)) af) ag)) (λC s2 H2 ex pn=>⟨dO,bH⟩))
  (ar (cu Zd rfl (xS rfl T.vB (ae (aa 1) ag)) (j8 rfl (dC (bX 3 m9.nd) (dC (bX 4 m9.nd) j6))) (aw (aI (fT (aq (aq (aa 4) af) af)) (aw (wH (aF (Bc T) hr (ae (aq (aa 2) (aq (aa 4) af)) (ae (aS (ae (aq (aq (aa 4) af) af) (ae (aa 3) ag))) ag))) (wG (aa 2) (aq (aa 4) af) set_list))) aH)))
  (ar (cu Zd rfl (fH rfl T.cQ (ae (aZ cV (by rfl) T.cJ cD (ae (aa 0) ag)) ag)) (bX 5 m9.nd) (aw (wH (aF (Bc T) hr (ae (aq (aa 2) (aG bp (aa 5) af)) (ae (aF (IG T) hr (ae (aq (aa 2) (aa 5)) (ae (aq (aq (aa 0) (aa 5)) af) ag))) ag))) (wG (aa 2) (aG bp (aa 5) af) set_list))))
  (ar (cu Zd rfl (N0 rfl T.cQ (ae (aG da (aZ cV (by rfl) T.cJ cD (ae (aa 0) ag)) af) (ae (gL hU af) (ae (gL hU af) ag)))) (bX 5 m9.nd) (aw (wH (aF (Bc T) hr (ae (aq (aa 2) (aa 5)) (ae (aF (IG T) hr (ae (aq (aa 2) (aG bp (aa 5) af)) (ae (gL hU (aq (aq (aa 0) (aa 5)) af)) ag))) ag))) (wG (aa 2) (aa 5) set_list))))
  (aw (aA (aa 2))))))),?_⟩
 have l1:=hP.len;have l2:=hM.len;refine aC (λσ H1=>∃ l,σ=[some (.ref a),some (.ref b),some (.ref l),none,none,none]/\aj H H1/\H l=none/\H1 l=some (.lst (aaL (ps.length+1) .non))) (λN hN=>?_) ?_
 .rfl';refine⟨_,dY hS,by lia,by lia,?_⟩;rw[l1,show ((ps.length:Int)+1).toNat=ps.length+1 by lia];refine cF iL (by rw[Yq,YE];exact Yw (by lia:_<=901) (by decide)) (ur (p:=λ_=>true) (f:=λ_=>.non) trivial (λx _ Q h=>?_) (λx _ _ Q h=>?_) ?_)
  .rfl';exact h
  .rfl';exact h
  rw[Y0,filter_tt];intro l hl;refine hN _ _ ⟨l,rfl,au hl,hl,?_⟩;rw[ax]
  congr 2
  refine ab1 λk=>?_;rw[YG,YG,aaZ];by_cases hk:k<ps.length+1
  .rw[ZT hk,if_pos hk];rfl
  .rw[ZV (by rw[YE];lia),if_neg hk];rfl
 rintro _ yR σ H1 ⟨l,rfl,s1,fD,kH⟩;subst yR;refine aC (nA (T1 ps ms) H a b l ps.length ms.length) (λN hN=>?_) ?_
 .rfl';refine⟨⟨_,s1.seq hT⟩,xW (xs:=ys) (nA (T1 ps ms) H a b l ps.length) ⟨_,aaL (ps.length+1) none,_,_,_,rfl,s1,kH,?_,by rw[ab9],by rw[PF];exact T1.nil⟩ ?_ ?_ ?_⟩
  .have:∀ k,az (dB H1) (aaL k .non) (aaL k none):=λk=>by
    induction k with
    | zero=>exact trivial
    | succ k ih=>exact⟨rfl,ih⟩
   exact this _
  .rintro i σ H2 _ ⟨_,_,_,_,_,_,s2,_⟩;exact s2.seq hT
  .rintro i x σ H2 p hx ⟨zs,ts,d1,d2,d3,rfl,s2,bA,hz,fY,pE⟩ hp;obtain⟨m,nB,tp,sp,rfl,h1,h2⟩:=hM.get hx;have km:=ht m (YF nB);have up:=au (o:=.tup [.int i,.ref tp]) hp;refine mI (ah.of ax) ?_;generalize upd H2 p (.tup [.int i,.ref tp])=H3 at up ⊢;have s3:=s2.trans up;have g1:=s3 _ _ h1;have g2:=s3 _ _ h2;have dg:=up _ _ bA;have dh:=hz.imp λ_ _ r=>r.same up;obtain⟨mt,lo,hi⟩:=m;rfl';refine ak (ah.of g1) rfl (ak (ah.of g2) rfl ?_);cases hi with
   | none =>
    rfl';exact⟨zs,ts,_,_,_,rfl,s3,dg,dh,fY,pE.skip nB rfl⟩
   | some h =>
    rfl';obtain⟨v,hv,rv⟩:=pC dh (t:=mt) (by dsimp only at km;lia);refine ak (ah.of g1) rfl (bz (ai.of dg) hv (ak (ah.of g1) rfl (ak (ah.of g2) rfl ?_)));rfl';refine⟨a7,λt1 kU=>?_⟩;have ut:=au (o:=.tup [.int h,.int i]) kU;have S4:=s3.trans ut;refine⟨v,.ref t1,_,some (h,(i:Int)),rfl,rv.same ut,⟨t1,rfl,ax⟩,λy hy _=>?_⟩;refine ak (ah.of (ut _ _ g1)) rfl ?_;exact⟨zs,_,rfl,ut _ _ dg,mt,Be (by rw[hz.len,fY];dsimp only at km;lia),Bf fD S4 (ut _ _ dg) (dh.imp λ_ _ r=>r.same ut) fY hy (by dsimp only at km;lia) (pE.put nB rfl)⟩
  .rintro σ H2 h;rw[l2] at h;exact hN _ _ h
 rintro _ yR σ H2 h2;subst yR;refine aC (nA (T2 ps ms) H a b l ps.length ps.length) (λN hN=>?_) ?_
 .obtain⟨zs,ts,d1,d2,d3,rfl,s2,bA,hz,fY,pE⟩:=h2;rfl';refine⟨_,dY (s2.seq hS),?_⟩;rw[l1];refine⟨by lia,by lia,?_⟩;rw[Zm];refine iD (nA (T2 ps ms) H a b l ps.length) ⟨zs,ts,d1,d2,d3,rfl,s2,bA,hz,fY,pE.two⟩ ?_ (λσ H3 h=>hN _ _ h);rintro i σ H3 hi ⟨zs,ts,d1,d2,d3,rfl,s3,dg,dh,fY,UY⟩;have zl:=dh.len;obtain⟨v,hv,rv⟩:=pC dh (t:=i+1) (by lia);obtain⟨u,hu,ru⟩:=pC dh (t:=i) (by lia);obtain⟨w,hw,tw,rfl,Bg⟩:=hP.at (Ba hi);rfl';rw[show (0:Int)+(i:Int)=((i:Nat):Int) by lia,show ((i:Nat):Int)+1=((i+1:Nat):Int) by lia];refine bz (ai.of dg) hv (bz (ai.of dg) hu (bz (s3.seq hS) (cZ hw) (ak (ah.of (s3 _ _ Bg)) rfl ?_)));refine⟨u,_,_,rfl,ru,λy H4 s4 hy=>?_⟩;refine⟨v,y,_,_,rfl,rv.same s4,hy,λz Bh _=>?_⟩;exact⟨zs,s4 _ _ dg,i+1,Be (by lia),Bf fD (s3.trans s4) (s4 _ _ dg) (dh.imp λ_ _ r=>r.same s4) fY Bh (by lia) (UY.step ay ht hi)⟩
 rintro _ yR σ H3 h3;subst yR;refine aC (nA (λi=>T3 ps ms (ps.length-i)) H a b l ps.length ps.length) (λN hN=>?_) ?_
 .obtain⟨zs,ts,d1,d2,d3,rfl,s2,bA,hz,fY,pE⟩:=h3;rfl';refine⟨_,dY (s2.seq hS),?_⟩;rw[l1,UW];refine⟨by lia,by lia,N3 (nA (λi=>T3 ps ms (ps.length-i)) H a b l ps.length) ⟨zs,ts,d1,d2,d3,rfl,s2,bA,hz,fY,pE.three⟩ ?_ (λσ H3 h=>hN _ _ h)⟩;rintro i σ H3 hi ⟨zs,ts,d1,d2,d3,rfl,s3,dg,dh,fY,vO⟩;have zl:=dh.len;obtain⟨j,hj⟩:∃ j,ps.length=j+1+i:=⟨ps.length-1-i,by lia⟩
  obtain⟨v,hv,rv⟩:=pC dh (t:=j+1) (by lia);obtain⟨u,hu,ru⟩:=pC dh (t:=j) (by lia);obtain⟨w,hw,tw,rfl,Bg⟩:=hP.at (Ba (ps:=ps) (i:=j) (by lia));rfl';rw[show (ps.length:Int)-1+(i:Int) * -1=((j:Nat):Int) by lia,show ((j:Nat):Int)+1=((j+1:Nat):Int) by lia];refine bz (ai.of dg) hu (bz (ai.of dg) hv (bz (s3.seq hS) (cZ hw) (ak (ah.of (s3 _ _ Bg)) rfl ?_)));rfl';refine⟨v,_,_,rfl,rv,λy H4 s4 hy=>?_⟩;refine⟨u,y,_,_,rfl,ru.same s4,hy,λz Bh _=>?_⟩;refine⟨zs,s4 _ _ dg,j,Be (by lia),Bf fD (s3.trans s4) (s4 _ _ dg) (dh.imp λ_ _ r=>r.same s4) fY Bh (by lia) ?_⟩;show T3 ps ms (ps.length-(i+1)) _;rw[show ps.length-(i+1)=j by lia];have vO:T3 ps ms (ps.length-i) (dz ts):=vO;rw[show ps.length-i=j+1 by lia] at vO;exact vO.step ay ht (by lia)
 rintro _ yR σ H4 ⟨zs,ts,d1,d2,d3,rfl,s4,A6,nz,fY,II⟩;subst yR;rw[aea] at II;rfl';exact q l zs ts H4 s4 fD A6 nz fY II.tops
inductive UZ(K:Yp)(vs:List V)(H:Hp)(Q:VK)(aP:XK):Prop
 | mk(a b:YC)(zs ys:List V)(ts:List (Option P2))(ms:List Mk)(_:vs=[.ref a,.ref b])(_:ai K H a zs)(_:az (dB H) zs ts)(_:ai K H b ys)(_:az (dQ H) ys ms)(_:(∀ m∈ms,m.1<ts.length))(_:(qP ms (dz ts)->∀ H',aj H H'->Q .non H'))(_:(∀ (j:Nat) m l v k,ms[j]?=some m->m.2.1=some l->dz ts m.1=some (v,k)->v<l->∀ p H',aj H H'->H p=none->H' p=some (.tup [.int k,.int j])->Q (.ref p) H'))
inductive U0(H:Hp)(a b:YC)(ts:List (Option P2))(ms:List Mk)(i:Nat)(σ:St)(H1:Hp):Prop
 | mk(e1 e2 e3:Option V)(_:σ=[some (.ref a),some (.ref b),e1,e2,e3])(_:aj H H1)(_:qP (ms.take i) (dz ts))
theorem U1(T:Tx K mg):Ok P w base 1 T.sf (UZ K):=by
 refine bf rA ?_;rintro _ _ _ _ H _ _ _ _ ⟨a,b,zs,ys,ts,ms,rfl,hA,hZ,hT,hM,ht,q0,q⟩;refine⟨_,(ar (cu Zd rfl (xS rfl T.vB (ae (aa 1) ag)) (j8 rfl (dC (bX 2 rA.nd) (dC (bX 3 rA.nd) j6))) (ar (aJ 4 rA.nd (aq (aa 0) (aq (aa 3) af)))
  (aw (aI (PW.pt (gh (fT (aa 4)) (gh (fT (aq (aq (aa 3) af) af)) (gI (vh (aq (aq (aa 3) af) af) (aq (aa 4) af)))))) (aw (aA (aS (ae (aq (aa 4) af) (ae (aa 2) ag))))) aH))))
  (aw (aA bH))),?_⟩
 have l1:=hZ.len;have l2:=hM.len;rfl';refine⟨⟨_,hT⟩,xW (xs:=ys) (U0 H a b ts ms) ⟨_,_,_,rfl,aj.refl _,λm h=>by simp at h⟩ ?_ ?_ ?_⟩
 .rintro i σ H2 _ ⟨_,_,_,_,s2,_⟩;exact s2.seq hT
 .rintro i x σ H2 p hx ⟨d1,d2,d3,rfl,s2,bh⟩ hp;obtain⟨m,nB,tp,sp,rfl,h1,h2⟩:=hM.get hx;have km:=ht m (YF nB);have up:=au (o:=.tup [.int i,.ref tp]) hp;refine mI (ah.of ax) ?_;generalize upd H2 p (.tup [.int i,.ref tp])=H3 at up ⊢;have s3:=s2.trans up;have g1:=s3 _ _ h1;have g2:=s3 _ _ h2;have next:(∀ l v k,m.2.1=some l->dz ts m.1=some (v,k)->l<=v)->qP (ms.take (i+1)) (dz ts):=λhh n hn=>by
   rw[ZI,nB] at hn;rcases Y3.mp hn with z|z
   .exact bh n z
   .obtain rfl:n=m:=by simpa using z
    exact hh
  obtain⟨v,hv,rv⟩:=pC hZ km;obtain⟨mt,lo,hi⟩:=m;rfl';refine ak (ah.of g1) rfl (bz (s3.seq hA) hv ?_);cases et:dz ts mt with
  | none =>
   rw[show dz ts (mt,lo,hi).1=none from et] at rv;obtain rfl:v = .non:=rv;rfl';exact⟨_,_,_,rfl,s3,next λl v k _ e=>by rw[show dz ts (mt,lo,hi).1=none from et] at e;cases e⟩
  | some q2 =>
   obtain⟨w,k⟩:=q2;rw[show dz ts (mt,lo,hi).1=some (w,k) from et] at rv;obtain⟨rt,rfl,hrt⟩:=rv;rfl';refine ak (ah.of g1) rfl (ak (ah.of g2) rfl ?_);cases lo with
   | none =>
    rfl';exact⟨_,_,_,rfl,s3,next λl v k e _=>by cases e⟩
   | some l =>
    rfl';refine ak (ah.of g1) rfl (ak (ah.of g2) rfl (ak (ah.of (s3 _ _ hrt)) rfl ?_));rfl';refine aN (λhc=>?_) λhc=>?_
    .exact ak (ah.of (s3 _ _ hrt)) rfl ⟨a7,λr bU=>q i _ l w k nB rfl et hc r _ (s3.trans (au bU)) (s3.free bU) ax⟩
    .exact⟨_,_,_,rfl,s3,next λl' v' k' e1 e2=>by
      cases e1;rw[show dz ts (mt,some l,hi).1=some (w,k) from et] at e2;cases e2;lia⟩
 .rintro σ H2 ⟨d1,d2,d3,rfl,s2,bh⟩;rfl';rw[l2,ZR] at bh;exact q0 bh _ s2
inductive c9(H:Hp)(v:V)(c:Cl):Prop
 | mk(t a b:YC)(_:v = .ref t)(_:H t=some (.tup [.ref a,.ref b]))(_:H a=some (.tup [ev c.1.1,.int c.1.2]))(_:H b=some (.tup [ev c.2.1,.int c.2.2]))
theorem c9.same(h:c9 H v r)(s:aj H H'):c9 H' v r:=let ⟨t,a,b,e,h1,h2,h3⟩:=h;⟨t,a,b,e,s _ _ h1,s _ _ h2,s _ _ h3⟩
theorem c9.put(h:c9 H v r)(hl:H l=some (.lst ys)):c9 (upd H l o) v r:=by
 obtain⟨t,a,b,e,h1,h2,h3⟩:=h;have nl:∀ (z:YC) (vs:List V),H z=some (.tup vs)->z≠l:=λz vs e1 e2=>by rw[e2,hl] at e1;cases e1
 exact⟨t,a,b,e,by rw[aD (nl _ _ h1)];exact h1,by rw[aD (nl _ _ h2)];exact h2,by rw[aD (nl _ _ h3)];exact h3⟩
theorem U2(h:dB H v o)(hl:H l=some (.lst ys))(k:∀ b o,b≠l->H b=some o->H' b=some o):dB H' v o:=by
 cases o with
 | none=>exact h
 | some p =>
  obtain⟨t,e,a⟩:=h;exact⟨t,e,k _ _ (λz=>by rw[z,hl] at a;cases a) a⟩
inductive pF(ps:List P2)(gs:List Gp)(i j:Nat)(H:Hp)(l:YC):Prop
 | mk(zs:List V)(cs:List Cl)(_:H l=some (.lst zs))(_:az (c9 H) zs cs)(_:cs.length<=8 * i+j)(_:uZ ps gs cs)(_:∀ i' j' g h,gs[i']?=some g->gs[j']?=some h->(i'<i∨(i'=i/\j'<j))->jN ps g h cs)
theorem pF.same(h:pF ps gs i j H l)(s:aj H H'):pF ps gs i j H' l:=let ⟨zs,cs,a,b,c1,c2,c3⟩:=h;⟨zs,cs,s _ _ a,b.imp λ_ _ x=>x.same s,c1,c2,c3⟩
inductive U3(K:Yp)(vs:List V)(H:Hp)(Q:VK)(aP:XK):Prop
 | mk(a b:YC)(xs ys:List V)(ps:List P2)(gs:List Gp)(_:vs=[.ref a,.ref b])(_:ai K H a xs)(_:bL H xs ps)(_:d8 ps)(_:ps.length<=900)(_:ai K H b ys)(_:az (pB H) ys gs)(_:gs.length<=8)(_:(∀ g∈gs,g.2.length<=1000/\∀ m∈g.2,m.1<=ps.length))(_:∀ l zs cs H',aj H H'->H l=none->H' l=some (.lst zs)->az (c9 H') zs cs->cs.length<=64->uZ ps gs cs->(∀ g∈gs,∀ h∈gs,jN ps g h cs)->Q (.ref l) H')
inductive IJ(H:Hp)(a b l:YC)(ps:List P2)(gs:List Gp)(i:Nat)(σ:St)(H1:Hp):Prop
 | mk(e1 e2 e3 e4 e5 e6:Option V)(_:σ=[some (.ref a),some (.ref b),some (.ref l),e1,e2,e3,e4,e5,e6])(_:aj H H1)(_:pF ps gs i 0 H1 l)
inductive U4(H H0:Hp)(a b l:YC)(nm mk tp:V)(ps:List P2)(gs:List Gp)(i j:Nat)(σ:St)(H1:Hp):Prop
 | mk(e4 e5 e6:Option V)(_:σ=[some (.ref a),some (.ref b),some (.ref l),some nm,some mk,some tp,e4,e5,e6])(_:aj H H1)(_:(∀ b o,b≠l->H0 b=some o->H1 b=some o))(_:pF ps gs i j H1 l)
theorem U5(T:Tx K mg):Ok P w base 3 T.sq (U3 K):=by
 refine bf kP ?_;rintro _ _ _ _ H _ _ _ hr ⟨a,b,xs,ys,ps,gs,rfl,hS,hP,ay,hn,hG,hA,h7,hm,q⟩;refine⟨_,(ar (aJ 2 kP.nd (cX ag))
  (ar (cu Zd rfl (cU (aa 1)) (j8 rfl (dC (bX 3 kP.nd) (dC (bX 4 kP.nd) j6))) (ar (aJ 5 kP.nd (aF (UX T) hr (ae (aa 0) (ae (aa 4) ag))))
    (aw (cu Zd rfl (cU (aa 1)) (j8 rfl (dC (bX 6 kP.nd) (dC (bX 7 kP.nd) j6))) (ar (aJ 8 kP.nd (aF (U1 T) hr (ae (aa 5) (ae (aa 7) ag))))
      (aw (aI (fT (aa 8)) (aw (dS (ju Zk ZX ZY nV (aa 2) (ae (aS (ae (aS (ae (aa 3) (ae (aq (aq (aa 4) (aq (aa 8) af)) af) ag))) (ae (aS (ae (aa 6) (ae (aq (aq (aa 7) (aq (aa 8) af)) af) ag))) ag))) ag)))) aH)))))))
  (aw (aA (aa 2))))),?_⟩
 have yl:=hA.len;refine aC (λσ H1=>∃ l,σ=[some (.ref a),some (.ref b),some (.ref l),none,none,none,none,none,none]/\aj H H1/\H l=none/\H1 l=some (.lst [])) (λN hN=>?_) ?_
 .rfl';exact⟨by decide,λl hl=>hN _ _ ⟨l,rfl,au hl,hl,ax⟩⟩
 rintro _ yR σ H1 ⟨l,rfl,s1,fl,hl⟩;subst yR;refine aC (λσ H2=>IJ H a b l ps gs ys.length σ H2) (λN hN=>?_) ?_
 .rfl';refine⟨⟨_,s1.seq hG⟩,ki (xs:=ys) (IJ H a b l ps gs) ⟨_,_,_,_,_,_,rfl,s1,[],[],hl,trivial,YS _,λ_ h=>(nomatch h),λ_ _ _ _ _ _ h=>by lia⟩ ?_ ?_ (λσ H' h=>hN _ _ h)⟩
  .rintro i σ H2 _ ⟨_,_,_,_,_,_,_,s2,_⟩;exact s2.seq hG
  .rintro i x σ H2 hx ⟨_,_,_,_,_,_,rfl,s2,h2⟩;obtain⟨r,hr,gg,k,zs,rfl,h3,h4,h5⟩:=hA.get hx;have Bi:=hm r (YF hr);refine mI (ah.of (s2 _ _ h3)) ?_;rfl';refine⟨a,k,xs,zs,ps,r.2,rfl,s2.seq hS,hP.same s2,ai.of (s2 _ _ h4),h5.imp λ_ _ x=>x.same s2,ay,hn,Bi.1,Bi.2,λtp us ts H3 s3 IK xn U6 fY TT=>?_⟩;have S3:=s2.trans s3;rfl';refine⟨⟨_,S3.seq hG⟩,ki (xs:=ys) (U4 H H3 a b l (ev r.1) (.ref k) (.ref tp) ps gs i) ⟨_,_,_,rfl,S3,λ_ _ _ e=>e,h2.same s3⟩ ?_ ?_ ?_⟩
   .rintro j σ H4 _ ⟨_,_,_,_,s4,_,_⟩;exact s4.seq hG
   .rintro j y σ H4 hy ⟨_,_,_,rfl,s4,b4,ws,cs,h6,nC,h8,h9,pG⟩;obtain⟨r',vP,Yf,k',U7,rfl,g3,g4,g5⟩:=hA.get hy;have Bj:=hm r' (YF vP);obtain⟨ls,_,hls,_⟩:=h2;have U8:tp≠l:=λz=>by rw[z,hls] at IK;cases IK
    have U9:=b4 _ _ U8 xn;have nz:=U6.imp λ_ _ x=>U2 x (s3 _ _ hls) b4;have mj:∀ vQ:List Cl,(∀ i' j' g h,gs[i']?=some g->gs[j']?=some h->(i'<i∨(i'=i/\j'<j))->jN ps g h vQ)->jN ps r r' vQ->∀ i' j' g h,gs[i']?=some g->gs[j']?=some h->(i'<i∨(i'=i/\j'<j+1))->jN ps g h vQ:=λvQ Va Vb i' j' g h a1 a2 a3=>by
     by_cases hz:i'=i/\j'=j
     .obtain⟨rfl,rfl⟩:=hz;rw[hr] at a1;rw[vP] at a2;cases a1;cases a2;exact Vb
     .exact Va i' j' g h a1 a2 (by lia)
    refine mI (ah.of (s4 _ _ g3)) ?_;rfl';refine⟨tp,k',us,U7,ts,r'.2,rfl,ai.of U9,nz,ai.of (s4 _ _ g4),g5.imp λ_ _ x=>x.same s4,λm cO=>by have:=Bj.2 m cO;lia,λbh H5 s5=>?_,λjj m lo v kk e1 e2 e3 e4 p H5 s5 fp hp=>?_⟩
    .rfl';exact⟨_,_,_,rfl,s4.trans s5,λb o hb e=>s5 _ _ (b4 b o hb e),pF.same ⟨ws,cs,h6,nC,by lia,h9,mj cs pG λm m1 n n1 hc=>absurd hc (Q7 TT Bi.2 Bj.2 bh m1 n1)⟩ s5⟩
    .obtain⟨i',a',rfl,cv,hc⟩:=TT.clash (Bj.2 m (YF e1)) e3 e2 e4;have tD:=s5 _ _ h6;have S5:=s4.trans s5;obtain⟨v1,oR,t1,w1,rfl,m1,_⟩:=(h5.imp λ_ _ x=>dQ.same x S5).at cv;obtain⟨v2,oT,t2,w2,rfl,m2,_⟩:=(g5.imp λ_ _ x=>dQ.same x S5).at e1;rfl';refine⟨.inl ⟨rfl,_,ai.of tD⟩,ak (ah.of hp) (v:=.int i') rfl (bz (ai.of (S5 _ _ h4)) (cZ oR) (ak (ah.of m1) (v:=.int a'.1) rfl ⟨a7,λp1 ip=>?_⟩))⟩;have u1:=au (o:=.tup [ev r.1,.int a'.1]) ip;refine ak (ah.of (u1 _ _ hp)) (v:=.int jj) rfl (bz (ai.of (u1 _ _ (S5 _ _ g4))) (cZ oT) (ak (ah.of (u1 _ _ m2)) (v:=.int m.1) rfl ⟨a7,λp2 fM=>⟨a7,λp3 tE=>?_⟩⟩));have u2:=au (o:=.tup [ev r'.1,.int m.1]) fM;have u3:=au (o:=.tup [.ref p1,.ref p2]) tE;have U:=u1.trans (u2.trans u3);have Bk:=U _ _ tD;have cq:c9 (upd (upd (upd H5 p1 (.tup [ev r.1,.int a'.1])) p2 (.tup [ev r'.1,.int m.1])) p3 (.tup [.ref p1,.ref p2])) (.ref p3) ((r.1,a'.1),(r'.1,m.1)):=⟨p3,p1,p2,rfl,ax,u3 _ _ (u2 _ _ ax),u3 _ _ ax⟩
     have wl:ws.length<=100:=by have e8:=nC.len;have b1:=(Yx.mp hr).1;have b2:=(Yx.mp vP).1;lia
     refine⟨ws,Bk,ZE wl (by decide),_,_,_,rfl,jw fl (S5.trans U),λb o hb e=>by rw[aD hb];exact U _ _ (s5 _ _ (b4 b o hb e)),_,cs++[((r.1,a'.1),(r'.1,m.1))],ax,az.app (nC.imp λ_ _ x=>(x.same (s5.trans U)).put Bk) ⟨cq.put Bk,trivial⟩,by rw[YO,YY];lia,λc tO=>?_,mj _ (λi' j' g h a1 a2 a3=>(pG i' j' g h a1 a2 a3).more) λ_ _ _ _ _=>⟨_,YX _ (.head _),rfl,rfl⟩⟩;rcases Y3.mp tO with z|z
     .exact h9 c z
     .rw[Zc.mp z];exact⟨r,YF hr,r',YF vP,a',YF cv,m,YF e1,rfl,hc⟩
   .rintro σ H4 ⟨_,_,_,rfl,s4,_,ws,cs,h6,nC,h8,h9,pG⟩;exact⟨_,_,_,_,_,_,rfl,s4,ws,cs,h6,nC,by lia,h9,λi' j' g h a1 a2 a3=>pG i' j' g h a1 a2 (by have:=(Yx.mp a2).1;lia)⟩
 rintro _ yR σ H2 ⟨_,_,_,_,_,_,rfl,s2,ws,cs,h6,nC,h8,h9,pG⟩;subst yR;rfl';exact q l ws cs H2 s2 fl h6 nC (by lia) h9 λg hg h hh=>by obtain⟨i',cv⟩:=Zy.mp hg;obtain⟨j',x9⟩:=Zy.mp hh;exact pG i' j' g h cv x9 (.inl (by have:=(Yx.mp cv).1;lia))
theorem IL(h:Q (!decide (o=some e))):neT (.int e) (ev o) Q:=by
 cases o with
 | none=>exact h
 | some x =>
  show if ¬ e=x then Q true else Q false
  by_cases z:e=x
  .subst z;rw[if_neg (λh=>h rfl)];simpa using h
  .rw[if_pos z];have:(some x:En)≠some e:=λh=>z (Option.some.inj h).symm;simpa [this] using h
theorem IM(h:Q (decide (o=o'))):eqT (ev o) (ev o') Q:=by
 cases o with
 | none=>cases o'<;>exact h
 | some x =>
  cases o' with
  | none=>exact h
  | some y =>
   show if x=y then Q true else Q false
   by_cases z:x=y
   .subst z;rw[if_pos rfl];simpa using h
   .rw[if_neg z];have:(some x:En)≠some y:=λh=>z (Option.some.inj h);simpa [this] using h
inductive Vc(H:Hp)(v:V)(s:En × Nat):Prop
 | mk(r:YC)(_:v = .ref r)(_:H r=some (.tup [ev s.1,.int s.2]))
theorem az.ints(h:az (λv (n:Int)=>v=V.int n) zs ns):zs=ns.map V.int:=by
 induction zs generalizing ns with
 | nil=>cases ns with|nil=>rfl|cons _ _=>exact h.elim
 | cons z zs ih=>cases ns with
  | nil=>exact h.elim
  | cons n ns=>rw[YV,<- ih h.2,h.1]
theorem IP:∀ {xs ys:List Int},xs.Nodup->(∀ x∈xs,x∈ys)->xs.length<=ys.length
 | [],_,_,_=>YS _
 | x::xs,ys,h,k=>by obtain⟨h1,h2⟩:=ZC.mp h;have hx:=k x (.head _);have ih:=IP (ys:=ys.erase x) h2 λy hy=>(aej (λz=>h1 (by rw[<- z];exact hy))).mpr (k y (.tail _ hy));rw[adl hx] at ih;have:=adS hx;rw[Zn];lia
inductive Vd(K:Yp)(vs:List V)(H:Hp)(Q:VK)(aP:XK):Prop
 | mk(l:YC)(e:Int)(zs:List V)(cs:List Cl)(_:vs=[.ref l,.int e])(_:H l=some (.lst zs))(_:az (c9 H) zs cs)(_:cs.length<=64)(_:∀ r ys H',aj H H'->H r=none->H' r=some (.lst ys)->az (c9 H') ys (wo e cs)->Q (.ref r) H')
theorem IQ(T:Tx K mg):Ok P w base 1 T.iY (Vd K):=by
 refine bf Hn ?_;rintro _ _ _ _ H _ Q _ hr ⟨l,e,zs,cs,rfl,hl,hC,hn,q⟩;refine⟨_,(aw (aA (c7 (bP.mk (fr:=[1]) (ys:=["eye"]) rfl (by decide +kernel) rfl (by decide +kernel) rfl rfl (.cons rfl .nil) (.cons rfl rfl rfl rfl .nil) (by decide) rfl) rfl (cU (aa 0)) (λC s2 H2 ex pn=>⟨(gP (PW.pt (gh (kN (aa 1) (cI (K:=K) (cI (K:=K) (aa 0) af) af)) (gI (kN (aa 1) (cI (K:=K) (cI (K:=K) (aa 0) af) af)))))),(aa 0)⟩)))),?_⟩;have zl:=hC.len;rfl';refine⟨⟨_,ai.of hl⟩,cF iK (Yw (by lia:zs.length<=64) (by decide)) (oJ (R:=c9 H) (R':=c9 H) (p:=λc=>!gA e c) (f:=λc=>c) (ai.of hl) hC (λx c r Q h=>?_) (λx c hp r Q h=>?_) λys hy=>?_)⟩
 .obtain⟨t,a,b,rfl,h1,h2,h3⟩:=r;rfl';refine ak (ah.of h1) (v:=.ref a) rfl (ak (ah.of h2) (v:=ev c.1.1) rfl (IL ?_));unfold gA at h;by_cases z:c.1.1=some e
  .rw[decide_eq_true z] at h ⊢;exact h
  .rw[decide_eq_false z] at h ⊢;refine ak (ah.of h1) (v:=.ref b) rfl (ak (ah.of h3) (v:=ev c.2.1) rfl (IL ?_));exact h
 .rfl';exact h _ r
 .rw[Y0];intro r hr;rw[agE] at hy;exact q r ys _ (au hr) hr ax (hy.imp λ_ _ x=>x.same (au hr))
inductive Ve(K:Yp)(vs:List V)(H:Hp)(Q:VK)(aP:XK):Prop
 | mk(v:V)(c:Cl)(_:vs=[v])(_:c9 H v c)(_:∀ l (es:List Int) H',aj H H'->H l=none->H' l=some (.lst (es.map V.int))->(∀ e,e∈es↔gA e c=true)->es.length<=2->Q (.ref l) H')
theorem Vf(T:Tx K mg):Ok P w base 1 T.lR (Ve K):=by
 refine bf Ho ?_;rintro _ _ _ s H _ Q _ hr ⟨v,c,rfl,⟨t,a,b,rfl,h1,h2,h3⟩,q⟩;refine⟨_,(aw (aA (QT rfl (c7 (bP.mk (fr:=[]) (ys:=[]) rfl (by decide +kernel) rfl (by decide +kernel) rfl rfl .nil .nil (by decide) rfl) rfl (wJ (aa 0)) (λC s2 H2 ex pn=>⟨(gP (fT (cI (K:=K) (aa 0) af))),(cI (K:=K) (aa 0) af)⟩)) (by rfl) T.HP Dd (by rfl) T.HN FT))),?_⟩;rfl';refine⟨⟨_,ah.of h1⟩,cF (xs:=[.ref a,.ref b]) DM a7 (oJ (R:=Vc H) (R':=λv (n:Int)=>v=V.int n) (p:=λs=>s.1.isSome) (f:=λs=>s.1.getD 0) (as:=[c.1,c.2]) (ah.of h1) ⟨⟨a,rfl,h2⟩,⟨b,rfl,h3⟩,trivial⟩ (λx s r Q h=>?_) (λx s hp r Q h=>?_) λzs hz=>?_)⟩
 .obtain⟨r,rfl,h4⟩:=r;rfl';refine ak (ah.of h4) (v:=ev s.1) rfl ?_;cases hs:s.1 with
  | none=>rw[hs] at h;exact h
  | some x=>rw[hs] at h;exact h
 .obtain⟨r,rfl,h4⟩:=r;rfl';refine ak (ah.of h4) (v:=ev s.1) rfl (h _ ?_);cases hs:s.1 with
  | none=>rw[hs] at hp;cases hp
  | some x=>rfl
 .rw[Y0];intro l hl;rw[az.ints hz];have u1:=au (o:=.lst ((([c.1,c.2].filter λs=>s.1.isSome).map λs=>s.1.getD 0).map V.int)) hl;have hn:(([c.1,c.2].filter λs=>s.1.isSome).map λs=>s.1.getD 0).length<=2:=by rw[Yq];exact Y2 _ _
  have hi:∀ e,e∈(([c.1,c.2].filter λs=>s.1.isSome).map λs=>s.1.getD 0)↔gA e c=true:=λe=>by
   rw[mW];constructor
   .intro h;obtain⟨s,hs,rfl⟩:=YI.mp h;obtain⟨m1,m2⟩:=Y4.mp hs;obtain⟨x,hx⟩:=aaQ.mp m2;rw[hx];rcases YK.mp m1 with rfl|m1
    .exact .inl hx
    .rw[Zc.mp m1] at hx;exact .inr hx
   .rintro (h|h)
    .exact YI.mpr ⟨c.1,Y4.mpr ⟨.head _,by rw[h];rfl⟩,by rw[h];rfl⟩
    .exact YI.mpr ⟨c.2,Y4.mpr ⟨.tail _ (.head _),by rw[h];rfl⟩,by rw[h];rfl⟩
  refine⟨l,rfl,_,ai.of ax,by lia,λws nd mem _ r hr=>?_⟩;exact q r ws _ (u1.trans (au hr)) (u1.free hr) ax (λe=>(mem e).trans (hi e)) (Yw (IP nd λx hx=>(mem x).mp hx) hn)
inductive IS(K:Yp)(N:Nat)(vs:List V)(H:Hp)(Q:VK)(aP:XK):Prop
 | mk(l:YC)(zs:List V)(cs:List Cl)(n:Nat)(_:vs=[.ref l,.int n])(_:n<N)(_:n<=7)(_:H l=some (.lst zs))(_:az (c9 H) zs cs)(_:cs.length<=64)(_:(∀ H',aj H H'->gn (n+1) cs->Q .non H'))(_:∀ r (es:List Int) H',aj H H'->H r=none->H' r=some (.lst (es.map V.int))->q8 es cs->es.length<=n->Q (.ref r) H')
inductive b5(H:Hp)(l:YC)(n:Nat)(cs:List Cl)(es:List Int)(i:Nat)(σ:St)(H1:Hp):Prop
 | mk(e1 e2:Option V)(_:σ=[some (.ref l),some (.int ((n+1:Nat):Int)),e1,e2])(_:aj H H1)(_:∀ e∈es.take i,gn (n+1) (wo e cs))
theorem Vg(T:Tx K mg):∀ N,Ok P w base (N+2) T.iZ (IS K N):=by
 intro N
 induction N with
 | zero =>
  refine okN T.iZ.F rB.1 (λvs H Q E h=>?_) (λaV A outer s H vs Q E hr h=>?_)
  .obtain⟨l,zs,cs,n,rfl,hN,_⟩:=h;exact absurd hN (aad _)
  .obtain⟨l,zs,cs,n,rfl,hN,_⟩:=h;exact absurd hN (aad _)
 | succ N ih =>
  refine okN T.iZ.F rB.1 (λvs H Q E h=>?_) (λaV A outer s H vs Q E hr h=>?_)
  .obtain⟨l,zs,cs,n,rfl,_⟩:=h;rfl
  .obtain⟨l,zs,cs,n,rfl,hN,n7,hl,hC,hn,q0,q⟩:=h;refine⟨_,(ar (aI (bW (aZ cV (by rfl) T.cJ cD (ae (aa 0) ag)) af) (aw (aA (cX ag))) aH)
    (ar (aI (bW (aa 1) af) (aw (aA bH)) aH)
    (ar (cu Zd rfl (cU (bC (Vf T) (hr.mono (by lia)) rfl T.lR.m T.lR.F.kp T.lR.b .nil bO (ae (bb bc (aa 0) af (λ_ _=>rfl)) ag))) (gi (i:=2) rB.nd rfl (aca rfl)) (ar (iy (i:=3) rB.nd rfl (aca rfl) (bC ih (hr.mono (by lia)) rfl T.iZ.m T.iZ.F.kp T.iZ.b .nil bO (ae (bC (IQ T) (hr.mono (by lia)) rfl T.iY.m T.iY.F.kp T.iY.b .nil bO (ae (aa 0) (ae (aa 2) ag))) (ae (aG da (aa 1) af) ag))))
      (aw (aI (fT (aa 3)) (aw (aA (aG lg (cX (ae (aa 2) ag)) (aa 3)))) aH))))
    (aw (aA bH))))),?_⟩
   have zl:=hC.len;cases cs with
   | nil =>
    obtain rfl:zs=[]:=aao.mp zl;rfl';refine⟨_,dY (ai.of hl),?_⟩;rfl';exact⟨by decide,λr hr=>q r [] _ (au hr) hr ax (λc hc=>(nomatch hc)) (YS _)⟩
   | cons c cs =>
    obtain⟨z,zs,rfl⟩:∃ z z',zs=z::z':=by cases zs with|nil=>cases zl|cons z zs=>exact⟨z,zs,rfl⟩
    cases n with
    | zero =>
     rfl';refine⟨_,dY (ai.of hl),?_⟩;refine aN (λh0=>absurd h0 (by rw[Zn];lia)) λ_=>?_;rfl';exact q0 _ (aj.refl _) λ_ _=>trivial
    | succ n =>
     rfl';refine⟨_,dY (ai.of hl),?_⟩;refine aN (λh0=>absurd h0 (by rw[Zn];lia)) λ_=>aN (λh0=>absurd h0 (by lia)) λ_=>?_;refine bz (ai.of hl) (v:=z) (show cC (z::zs) ((0:Nat):Int)=some z from cZ rfl) ⟨z,c,rfl,hC.1,λk es H1 s1 _ hk ye D2=>?_⟩;rfl';refine⟨⟨_,ai.of hk⟩,ki (xs:=es.map V.int) (b5 H1 l n (c::cs) es) ⟨_,_,rfl,aj.refl _,λ_ h=>(nomatch h)⟩ ?_ ?_ ?_⟩
     .rintro i σ H2 _ ⟨_,_,rfl,s2,_⟩;exact ai.of (s2 _ _ hk)
     .rintro i x σ H2 hx ⟨e1,e2,rfl,s2,bh⟩;rw[YG] at hx;obtain⟨e,he,rfl⟩:=Y6.mp hx;have S2:=s1.trans s2;rfl';refine⟨l,e,_,c::cs,rfl,S2 _ _ hl,hC.imp λ_ _ x=>x.same S2,hn,λr ys H3 s3 _ hr hy=>?_⟩;refine⟨r,ys,wo e (c::cs),n,by rw[show (((n+1:Nat):Int)-1)=(n:Int) by lia],by lia,by lia,hr,hy,Yw (Y2 _ _) hn,λH4 s4 h4=>?_,λr2 Vh H4 s4 f4 gG Vi hle=>?_⟩
      .rfl';refine⟨_,_,rfl,s2.trans (s3.trans s4),λe' oE=>?_⟩;rw[ZI,he] at oE;rcases Y3.mp oE with z|z
       .exact bh e' z
       .obtain rfl:e'=e:=by simpa using z
        exact h4
      .rfl';refine⟨by decide,λp hp=>⟨_,ax,_,(au hp) _ _ gG,Yw (by rw[Yq,YY];lia:_<=20) (by decide),λp1 ip=>?_⟩⟩;have W:=s1.trans (s2.trans (s3.trans (s4.trans (au (o:=.lst [.int e]) hp))));exact q p1 (e::Vh) _ (W.trans (au ip)) (W.free ip) ax (Rf Vi) (by rw[Zn];lia)
     .rintro σ H2 ⟨e1,e2,rfl,s2,bh⟩;rfl';refine q0 _ (s1.trans s2) λe he=>bh e ?_;rw[Yq,ZR];exact (ye e).mpr he
def ee(H:Hp):V->Pp->Prop
 | v,.nil=>v = .non
 | v,.full=>∃ r,v = .ref r/\H r=some (.tup [.str "full"])
 | v,.cls c a b=>∃ r p q x y,v = .ref r/\H r=some (.tup [.str "clash",.ref p,.ref q,x,y])/\H p=some (.tup [ev c.1.1,.int c.1.2])/\H q=some (.tup [ev c.2.1,.int c.2.2])/\ee H x a/\ee H y b
theorem ee.same(s:aj H H'):∀ {t:Pp} {v:V},ee H v t->ee H' v t
 | .nil,_,h=>h
 | .full,_,⟨r,e,h⟩=>⟨r,e,s _ _ h⟩
 | .cls _ _ _,_,⟨r,p,q,x,y,e,h1,h2,h3,h4,h5⟩=>⟨r,p,q,x,y,e,s _ _ h1,s _ _ h2,s _ _ h3,ee.same s h4,ee.same s h5⟩
noncomputable def tF(n:Nat)(cs:List Cl)(o:En):Pp:=match o with|none=>.nil|some e=>lH n (wo e cs)
theorem IT(n:Nat)(c:Cl)(cs:List Cl):lH (n+1) (c::cs) = .cls c (tF n (c::cs) c.1.1) (if c.1.1=c.2.1 then .nil else tF n (c::cs) c.2.1):=rfl
inductive Bl(K:Yp)(N:Nat)(vs:List V)(H:Hp)(Q:VK)(aP:XK):Prop
 | mk(l:YC)(m:Int)(zs:List V)(cs:List Cl)(n:Nat)(_:vs=[.ref l,.int m])(_:m+1=(n:Int))(_:n<N)(_:H l=some (.lst zs))(_:az (c9 H) zs cs)(_:cs.length<=64)(_:gn n cs)(_:∀ v H',aj H H'->ee H' v (lH n cs)->Q v H')
inductive Vj(K:Yp)(N:Nat)(vs:List V)(H:Hp)(Q:VK)(aP:XK):Prop
 | mk(l:YC)(m:Int)(o:En)(zs:List V)(cs:List Cl)(n:Nat)(_:vs=[.ref l,ev o,.int m])(_:m=(n:Int))(_:n<N)(_:H l=some (.lst zs))(_:az (c9 H) zs cs)(_:cs.length<=64)(_:(∀ e,o=some e->gn n (wo e cs)))(_:∀ v H',aj H H'->ee H' v (tF n cs o)->Q v H')
theorem IU(T:Tx K mg)(N:Nat)(ih:Ok P w base (2 * N+1) T.ic (Bl K N)):Ok P w base (2 * N+2) T.ib (Vj K N):=by
 refine okN T.ib.F Hq.1 (λvs H Q E h=>?_) (λaV A outer s H vs Q E hr h=>?_)
 .obtain⟨l,m,o,zs,cs,n,rfl,_⟩:=h;rfl
 .obtain⟨l,m,o,zs,cs,n,rfl,hm,hN,hl,hC,hn,bh,q⟩:=h;refine⟨_,(aw (aA (nN (dG (aa 1)) bH (bC ih (hr.mono (by lia)) rfl T.ic.m T.ic.F.kp T.ic.b .nil bO (ae (bC (IQ T) (hr.mono (by lia)) rfl T.iY.m T.iY.F.kp T.iY.b .nil bO (ae (aa 0) (ae (aa 1) ag))) (ae (aG da (aa 2) af) ag)))))),?_⟩;cases o with
  | none =>
   rfl';exact q _ _ (aj.refl _) rfl
  | some e =>
   rfl';refine⟨l,e,zs,cs,rfl,hl,hC,hn,λr ys H1 s1 _ cf hy=>?_⟩;exact⟨r,_,ys,wo e cs,n,rfl,by lia,hN,cf,hy,Yw (Y2 _ _) hn,bh e rfl,λv H2 s2 h2=>q v H2 (s1.trans s2) h2⟩
theorem Vk(T:Tx K mg):∀ N,Ok P w base (2 * N+1) T.ic (Bl K N):=by
 intro N
 induction N with
 | zero =>
  refine okN T.ic.F nc.1 (λvs H Q E h=>?_) (λaV A outer s H vs Q E hr h=>?_)
  .obtain⟨l,m,zs,cs,n,rfl,hm,hN,_⟩:=h;exact absurd hN (aad _)
  .obtain⟨l,m,zs,cs,n,rfl,hm,hN,_⟩:=h;exact absurd hN (aad _)
 | succ N ih =>
  refine okN T.ic.F nc.1 (λvs H Q E h=>?_) (λaV A outer s H vs Q E hr h=>?_)
  .obtain⟨l,m,zs,cs,n,rfl,_⟩:=h;rfl
  .obtain⟨l,m,zs,cs,n,rfl,hm,hN,hl,hC,hn,bh,q⟩:=h;refine⟨_,(ar (aI (lN (aa 1) af) (aw (aA (aS (ae ba ag)))) aH)
    (ar (iy (i:=2) nc.nd rfl (aca rfl) (bb bc (bb bc (aa 0) af (λ_ _=>rfl)) af (λ_ _=>rfl)))
    (ar (iy (i:=3) nc.nd rfl (aca rfl) (bb bc (bb bc (aa 0) af (λ_ _=>rfl)) af (λ_ _=>rfl)))
    (ar (iy (i:=4) nc.nd rfl (aca rfl) (bC (IU T N ih) (hr.mono (by lia)) rfl T.ib.m T.ib.F.kp T.ib.b .nil bO (ae (aa 0) (ae (bb bc (aa 2) af (λ_ _=>rfl)) (ae (aa 1) ag)))))
    (ar (iy (i:=5) nc.nd rfl (aca rfl) (nN (bW (bb bc (aa 2) af (λ_ _=>rfl)) (bb bc (aa 3) af (λ_ _=>rfl))) bH (bC (IU T N ih) (hr.mono (by lia)) rfl T.ib.m T.ib.F.kp T.ib.b .nil bO (ae (aa 0) (ae (bb bc (aa 3) af (λ_ _=>rfl)) (ae (aa 1) ag))))))
    (aw (aA (aS (ae ba (ae (aa 2) (ae (aa 3) (ae (aa 4) (ae (aa 5) ag))))))))))))),?_⟩
   have zl:=hC.len;cases n with
   | zero =>
    rfl';refine aN (λ_=>?_) λh0=>absurd (show m<0 by lia) h0;exact⟨by decide,λr hr=>q _ _ (au hr) ⟨r,rfl,ax⟩⟩
   | succ n =>
    cases cs with
    | nil=>exact bh.elim
    | cons c cs =>
     obtain⟨z,zs,rfl⟩:∃ z z',zs=z::z':=by cases zs with|nil=>cases zl|cons z zs=>exact⟨z,zs,rfl⟩
     obtain⟨t,a,b,rfl,ht,ha,hb⟩:=id hC.1;have z0:cC (V.ref t::zs) ((0:Nat):Int)=some (.ref t):=cZ rfl;rfl';refine aN (λh0=>absurd h0 (by lia)) λ_=>?_;refine bz (ai.of hl) z0 (ak (ah.of ht) (v:=.ref a) rfl ?_);refine bz (ai.of hl) z0 (ak (ah.of ht) (v:=.ref b) rfl (ak (ah.of ha) (v:=ev c.1.1) rfl ?_));refine⟨l,m,c.1.1,_,c::cs,n,rfl,by lia,by lia,hl,hC,hn,λe he=>bh e (mW.mpr (.inl he)),λv1 H1 s1 h1=>?_⟩;refine ak (ah.of (s1 _ _ ha)) (v:=ev c.1.1) rfl (ak (ah.of (s1 _ _ hb)) (v:=ev c.2.1) rfl (IM ?_));rw[IT] at q;by_cases he:c.1.1=c.2.1
     .rw[decide_eq_true he];rw[if_pos he] at q;refine⟨by decide,λp hp=>?_⟩;have u1:=au (o:=.tup [.str "clash",.ref a,.ref b,v1,.non]) hp;have U:=s1.trans u1;exact q _ _ U ⟨p,a,b,v1,_,rfl,ax,U _ _ ha,U _ _ hb,h1.same u1,rfl⟩
     .rw[decide_eq_false he];rw[if_neg he] at q;refine ak (ah.of (s1 _ _ hb)) (v:=ev c.2.1) rfl ⟨l,m,c.2.1,_,c::cs,n,rfl,by lia,by lia,s1 _ _ hl,hC.imp λ_ _ x=>x.same s1,hn,λe he=>bh e (mW.mpr (.inr he)),λv2 H2 s2 h2=>⟨by decide,λp hp=>?_⟩⟩;have u1:=au (o:=.tup [.str "clash",.ref a,.ref b,v1,v2]) hp;have U:=s1.trans (s2.trans u1);exact q _ _ U ⟨p,a,b,v1,v2,rfl,ax,U _ _ ha,U _ _ hb,h1.same (s2.trans u1),h2.same u1⟩
theorem Vl(T:Tx K mg):Ok P w base 10 T.iZ (IS K 8):=Vg T 8
theorem Vm(T:Tx K mg):Ok P w base 19 T.ic (Bl K 9):=Vk T 9
noncomputable def di:Pp->Nat
 | .nil=>0
 | .full=>1
 | .cls _ a b=>(if di a<=di b then di b else di a)+1
theorem IV:∀ (n:Nat) (cs:List Cl),di (lH n cs)<=n+1
 | 0,_=>Yz _
 | n+1,[]=>Nat.le_add_left _ _
 | n+1,c::cs=>by
  have one:∀ o,di (tF n (c::cs) o)<=n+1:=λo=>by
   cases o with
   | none=>exact YS _
   | some e=>exact IV n _
  have two:di (if c.1.1=c.2.1 then .nil else tF n (c::cs) c.2.1)<=n+1:=by
   split
   .exact YS _
   .exact one _
  rw[IT];show (if _<=_ then _ else _)+1<=n+1+1;have:=one c.1.1;split<;>lia
inductive Bm(G H:Hp)(v:V)(sw gw:List W2)(tb:Tb)(mo:Int):Prop
 | mj (r k:YC) (j:Nat) (_:v = .ref r) (_:H r=some (.tup [.str "never",.ref k])) (_:H k=some (.tup [.str "step",.int (j:Int)])) (_:sw[j]?=some none)
 | gol (r k:YC) (j:Nat) (_:v = .ref r) (_:H r=some (.tup [.str "never",.ref k])) (_:H k=some (.tup [.str "at",.int (j:Int)])) (_:gw[j]?=some none)
 | pap (r:YC) (k:V) (t:Pp) (pp:List P2) (gs:List S2) (_:v = .ref r) (_:H r=some (.tup [.str "never",k])) (_:ee H k t) (_:di t<=9) (_:sw=pp.map fS) (_:gw=gs.map some) (_:Val pp gs tb mo t [])
 | may (r k:YC) (cs:List Int) (pp:List P2) (gs:List S2) (es:List Int) (_:v = .ref r) (_:H r=some (.tup [.str "may",.ref k])) (_:H k=some (.lst (cs.map V.int))) (_:G k=none) (_:cs.length=gw.length) (_:sw=pp.map fS) (_:gw=gs.map some) (_:gZ pp (bo cs)) (_:∀ t s,gs[t]?=some s->bD s (bo cs t)) (_:(es.length:Int)<=mo) (_:meets (dP tb es) (bo cs))
noncomputable def fj(gs:List S2):List Mk:=(YZ gs.length).map λi=>(i,gs.getD i (none,none))
theorem IW{gs:List S2}{i:Nat}{m:Mk}(h:(fj gs)[i]?=some m):m.1=i/\gs[i]?=some m.2:=by
 unfold fj at h;rw[YG] at h;obtain⟨k,hk,rfl⟩:=Y6.mp h;have hi:i<gs.length:=by
  have:=(Yx.mp hk).1
  rwa [YE] at this
 rw[ZT hi] at hk;cases hk;exact⟨rfl,by show gs[i]?=some (gs.getD i _);rw[Yr,Ys hi];rfl⟩
theorem IX(h:m∈fj gs):m.1<gs.length/\gs[m.1]?=some m.2:=by obtain⟨i,hi⟩:=Zy.mp h;obtain⟨e1,e2⟩:=IW hi;rw[<- e1] at e2;exact⟨(Yx.mp e2).1,e2⟩
theorem vR(gs:List S2):(fj gs).length=gs.length:=by unfold fj;rw[Yq,YE]
theorem az.vS:∀ {xs:List V} {as:List α},xs.length=as.length->(∀ (i:Nat) x a,xs[i]?=some x->as[i]?=some a->R x a)->az R xs as
 | [],[],_,_=>trivial
 | _::_,_::_,h,k=>⟨k 0 _ _ rfl rfl,az.vS (by simpa using h) λi x a h1 h2=>k (i+1) x a h1 h2⟩
 | [],_::_,h,_=>by cases h
 | _::_,[],h,_=>by cases h
theorem getD_none{ws:List W2}{j:Nat}(h:j<ws.length)(e:abk (ws.getD j none)=true):ws[j]?=some none:=by
 rw[Yr,Ys h] at e;rw[Ys h];cases hw:ws[j] with
 | none=>rfl
 | some s=>rw[hw] at e;cases e
inductive Vn(K:Yp)(B C:YC)(vs:List V)(H:Hp)(Q:VK)(E:XK):Prop
 | mk(x p b:YC)(e t u d m:Int)(xs:List V)(ps:List Pa)(tb:Tb)(_:vs=[.ref x,.ref b])(_:cb B H x e t u d m p tb)(_:bV e t tb)(_:tb.length<=60)(_:1<=t)(_:t<=12)(_:0<=e)(_:e<=7)(_:0<=m)(_:m<=7)(_:ai K H b xs)(_:dF H xs ps)(_:ps.length<=900)(_:(¬ fc t ps->E (.ref C) none H))(_:(fc t ps->∀ v H',aj H H'->Bm H H' v (dI u d ps (t-1).toNat) (ed ps t.toNat) tb m->Q v H'))
theorem vT(T:Tx K mg):Ok P w base 20 T.x_ask (Vn K T.aL T.gD):=by
 refine ia ng ?_;rintro _ _ _ s H vs _ _ hr ⟨x,p,b,e,t,u,d,m,xs,ps,tb,rfl,hb,hot,cc,t1,t2,e0,e7,m0,m7,hX,hP,hn,Q0,Q9⟩;refine⟨_,(ar (aJ 2 ng.nd (bC (T7 T) (hr.mono (by decide)) rfl T.lO.m T.lO.F.kp T.lO.b .nil cE (ae (aa 0) (ae (aa 1) ag))))
  (ar (aJ 3 ng.nd (bC (T9 T) (hr.mono (by decide)) rfl T.lP.m T.lP.F.kp T.lP.b .nil cE (ae (aa 0) (ae (aa 1) ag))))
  (ar (aI (jn (Gh (eY hr)) bH (aa 2) (by with_unfolding_all rfl)) (aw (aA (aS (ae ba (ae (aS (ae ba (ae (ju Zk abS adB (Gi (eY hr)) (aa 2) (ae bH ag)) ag))) ag))))) aH)
  (ar (aI (jn (Gh (eY hr)) bH (aa 3) (by with_unfolding_all rfl)) (aw (aA (aS (ae ba (ae (aS (ae ba (ae (ju Zk abS adB (Gi (eY hr)) (aa 3) (ae bH ag)) ag))) ag))))) aH)
  (ar (aJ 4 ng.nd (RB rfl (by rfl) T.pf (by rfl) T.vB (ae (aa 3) ag)))
  (ar (aJ 5 ng.nd (aF (U5 T) hr (ae (aa 2) (ae (aG lg (cX (ae (aS (ae bH (ae (aa 4) ag))) ag)) (aF (Uy T) hr (ae (aa 0) ag))) ag))))
  (ar (aJ 6 ng.nd (aF (Vl T) hr (ae (aa 5) (ae (ck rfl (aa 0) rfl) ag))))
  (ar (aI (dG (aa 6)) (aw (aA (aS (ae ba (ae (aF (Vm T) hr (ae (aa 5) (ae (ck rfl (aa 0) rfl) ag))) ag))))) aH)
  (aw (aA (aS (ae ba (ae (aF (UO T) hr (ae (aa 2) (ae (aG lg (aa 4) (aF (Uw T) hr (ae (aa 0) (ae (aa 6) ag)))) ag))) ag))))))))))))),?_⟩
 obtain⟨⟨dx,hx⟩,kvs,hkv,Yg⟩:=id hb;have Bn:fX T.aL H x e t u d m p kvs:=⟨⟨dx,hx⟩,hkv⟩
 by_cases hk:fc t ps
 case neg =>
  refine aC (λ_ _=>False) (λN hN=>?_) (λ_ _ _ _ h=>h.elim);rfl';exact⟨x,p,b,e,t,u,d,m,kvs,xs,ps,rfl,Bn,t1,t2,hX,hP,hn,λ_=>Q0 hk,λz=>absurd z hk⟩
 have Q1:=Q9 hk;refine aC (λσ H1=>∃ s ys,σ=[some (.ref x),some (.ref b),some (.ref s),none,none,none,none]/\aj H H1/\H1 s=some (.lst ys)/\az (fJ H1) ys (dI u d ps (t-1).toNat)) (λN hN=>?_) ?_
 .rfl';exact⟨x,p,b,e,t,u,d,m,kvs,xs,ps,rfl,Bn,t1,t2,hX,hP,hn,λz=>absurd hk z,λ_ l ys H1 s1 _ hl hW=>hN _ _ ⟨l,ys,rfl,s1,hl,hW⟩⟩
 rintro _ yR σ H1 ⟨s,ys,rfl,s1,hs,hW⟩;subst yR;refine aC (λσ H2=>∃ gl zs,σ=[some (.ref x),some (.ref b),some (.ref s),some (.ref gl),none,none,none]/\aj H1 H2/\H2 gl=some (.lst zs)/\az (fJ H2) zs (ed ps t.toNat)) (λN hN=>?_) ?_
 .rfl';exact⟨x,p,b,e,t,u,d,m,kvs,xs,ps,rfl,Bn.same s1,t1,t2,s1.seq hX,hP.same s1,hn,λz=>absurd hk z,λ_ l ys H2 s2 _ hl hW=>hN _ _ ⟨l,ys,rfl,s2,hl,hW⟩⟩
 rintro _ yR σ H2 ⟨gl,zs,rfl,s2,gB,hG⟩;subst yR;have Bo:=s1.trans s2;have cA:=s2 _ _ hs;have Bp:=hW.imp λ_ _ r=>r.same s2;have wl:(dI u d ps (t-1).toNat).length=(t-1).toNat:=by unfold dI;rw[Yq,YE]
 have gw:(ed ps t.toNat).length=t.toNat:=by unfold ed;rw[Yq,YE]
 have yl:=hW.len;have zl:=hG.len;obtain⟨n1,n2,n3⟩:=yU Bp;obtain⟨k1,k2,k3⟩:=yU hG;refine aC (λσ H3=>σ=[some (.ref x),some (.ref b),some (.ref s),some (.ref gl),none,none,none]/\H3=H2/\(dI u d ps (t-1).toNat).any abk=false) (λN hN=>?_) ?_
 .rfl';refine⟨s,ys,rfl,rfl,ai.of cA,n1,?_⟩;rw[n2];cases hA:(dI u d ps (t-1).toNat).any abk with
  | false =>
   rfl';exact hN _ _ ⟨rfl,rfl,hA⟩
  | true =>
   rfl';obtain⟨j,j1,j2,j3⟩:=yV (d:=V.non) (n2.trans hA);refine⟨.inl ⟨rfl,_,ai.of cA⟩,s,ys,j,rfl,rfl,ai.of cA,n1,j1,by lia,j2,j3,a7,λk iq=>⟨a7,λr hr=>?_⟩⟩;have u1:=au (o:=.tup [.str "step",.int (j:Int)]) iq;have u2:=au (o:=.tup [.str "never",.ref k]) hr;rw[n3] at j2;exact Q1 _ _ (Bo.trans (u1.trans u2)) (.mj r k j rfl ax (u2 _ _ ax) (getD_none (by lia) j2))
 rintro _ yR σ H3 ⟨rfl,rfl,hA⟩;subst yR;refine aC (λσ H4=>σ=[some (.ref x),some (.ref b),some (.ref s),some (.ref gl),none,none,none]/\H4=H3/\(ed ps t.toNat).any abk=false) (λN hN=>?_) ?_
 .rfl';refine⟨gl,zs,rfl,rfl,ai.of gB,k1,?_⟩;rw[k2];cases hB:(ed ps t.toNat).any abk with
  | false =>
   rfl';exact hN _ _ ⟨rfl,rfl,hB⟩
  | true =>
   rfl';obtain⟨j,j1,j2,j3⟩:=yV (d:=V.non) (k2.trans hB);refine⟨.inl ⟨rfl,_,ai.of gB⟩,gl,zs,j,rfl,rfl,ai.of gB,k1,j1,by lia,j2,j3,a7,λk iq=>⟨a7,λr hr=>?_⟩⟩;have u1:=au (o:=.tup [.str "at",.int (j:Int)]) iq;have u2:=au (o:=.tup [.str "never",.ref k]) hr;rw[k3] at j2;exact Q1 _ _ (Bo.trans (u1.trans u2)) (.gol r k j rfl ax (u2 _ _ ax) (getD_none (by lia) j2))
 rintro _ yR σ H4 ⟨rfl,rfl,hB⟩;subst yR;obtain⟨pp,ep,ay⟩:=Gk (f:=λ(k:Nat)=>fb (none,none) ((some (-d),some u)::sel ps "step" (k:Int))) (λk s h=>Q6 h) (YZ (t-1).toNat) λk hk e=>Gm hA _ (YI.mpr ⟨k,hk,rfl⟩) e;replace ep:dI u d ps (t-1).toNat=pp.map fS:=ep;obtain⟨gs,eg⟩:=all_some _ (Gm hB);have Yh:pp.length=(t-1).toNat:=by rw[<- wl,ep,Yq]
 have Yi:gs.length=t.toNat:=by rw[<- gw,eg,Yq]
 rw[ep] at Bp;have IY:=Gn Bp;have Bq:=hG;rw[eg] at Bq;have M1:∀ mm∈fj gs,mm.1<=pp.length:=λmm hm=>by have:=(IX hm).1;lia
 have M2:∀ r∈tb,r.1.2.toNat<=pp.length:=λr hr=>by have ho:=hot.2 r hr;unfold mP at ho;lia
 refine aC (λσ H5=>∃ k vs,σ=[some (.ref x),some (.ref b),some (.ref s),some (.ref gl),some (.ref k),none,none]/\aj H4 H5/\H5 k=some (.lst vs)/\az (dQ H5) vs (fj gs)) (λN hN=>?_) ?_
 .rfl';refine⟨zs,ai.of gB,λl vs H5 s5 _ hl Vo hv=>hN _ _ ⟨l,vs,rfl,s5,hl,az.vS (by rw[Vo,vR,Bq.len,Yq]) λi y mk e1 e2=>?_⟩⟩;obtain⟨f1,f2⟩:=IW e2;obtain⟨z,hz,rz⟩:=Bq.at (i:=i) (by rw[YG,f2];rfl);obtain⟨p0,rfl,_,h5⟩:=hv i y z e1 hz;obtain⟨pz,rfl,hpz⟩:=rz;exact⟨p0,pz,rfl,by rw[h5,f1],s5 _ _ hpz⟩
 rintro _ yR σ H5 ⟨k,vs,rfl,s5,hkl,hM⟩;subst yR;have vl:=hM.len;rw[vR] at vl;have S5:=Bo.trans s5;have vn:vs.length<=12:=by lia
 refine aC (λσ H6=>∃ c ws cs,σ=[some (.ref x),some (.ref b),some (.ref s),some (.ref gl),some (.ref k),some (.ref c),none]/\aj H5 H6/\H6 c=some (.lst ws)/\az (c9 H6) ws cs/\cs.length<=64/\uZ pp (jO (fj gs) e.toNat tb) cs/\∀ g∈jO (fj gs) e.toNat tb,∀ h∈jO (fj gs) e.toNat tb,jN pp g h cs) (λN hN=>?_) ?_
 .rfl';refine⟨a7,λt0 Vp=>⟨by decide,λl0 fD=>?_⟩⟩;have u1:=au (o:=.tup [.non,.ref k]) Vp;have u2:=au (o:=.lst [.ref t0]) fD;have U:=u1.trans u2;refine⟨x,p,e,t,u,d,m,tb,rfl,hb.same (S5.trans U),hot.1,by lia,λr hr=>(hot.2 r hr).2.1,e0,e7,λl ws H6 s6 _ hl IZ=>?_⟩;have I0:=IZ.len;unfold qZ at I0;rw[Yq,Yq,YE] at I0;refine⟨l,rfl,[.ref t0],s6 _ _ ax,ws,hl,Yw (by show 1+ws.length<=30;lia) (by decide),λc hc=>?_⟩;have u3:=au (o:=.lst ([.ref t0]++ws)) hc;have S6:=s5.trans (U.trans (s6.trans u3));refine⟨s,c,ys,.ref t0::ws,pp,jO (fj gs) e.toNat tb,rfl,ai.of (S6 _ _ cA),IY.same S6,ay,by lia,ai.of ax,⟨⟨t0,k,vs,rfl,(u2.trans (s6.trans u3)) _ _ ax,(U.trans (s6.trans u3)) _ _ hkl,hM.imp λ_ _ r=>r.same (U.trans (s6.trans u3))⟩,IZ.imp λ_ _ r=>r.same u3⟩,?_,λg hg=>?_,λl7 Vq Vr H7 s7 _ a1 a2 a3 a4 a5=>hN _ _ ⟨l7,Vq,Vr,rfl,U.trans (s6.trans (u3.trans s7)),a1,a2,a3,a4,a5⟩⟩
  .unfold jO qZ;rw[Zn,Yq,Yq,YE];lia
  .rcases YK.mp hg with rfl|z
   .exact⟨by show (fj gs).length<=1000;rw[vR];lia,M1⟩
   .obtain⟨g1,mV,rfl⟩:=YI.mp z;obtain⟨i,_,rfl⟩:=YI.mp mV;refine⟨Yw (by unfold lD;rw[Yq];exact Yw (Y2 _ _) (by rw[oI];exact Yz _)) (by lia:tb.length<=1000),λmm cO=>?_⟩;obtain⟨r,hr,_,rfl⟩:=yW.mp cO;exact M2 r hr
 rintro _ yR σ H6 ⟨c,ws,cs,rfl,s6,hc,hC,bq,hsnd,qC⟩;subst yR;have S6:=S5.trans s6;refine aC (λσ H7=>∃ av,σ=[some (.ref x),some (.ref b),some (.ref s),some (.ref gl),some (.ref k),some (.ref c),some av]/\aj H6 H7/\((av = .non/\gn (m.toNat+1) cs) ∨ ∃ f es,av = .ref f/\H7 f=some (.lst (es.map V.int))/\q8 es cs/\es.length<=m.toNat)) (λN hN=>?_) ?_
 .rfl';refine⟨_,_,_,S6 _ _ hx,T.bG,T.sW,_,rfl,?_⟩;exact⟨c,ws,cs,m.toNat,by rw[aaB m0],by lia,by lia,hc,hC,bq,λH7 s7 h7=>hN _ _ ⟨_,rfl,s7,.inl ⟨rfl,h7⟩⟩,λr es H7 s7 _ hr h1 h2=>hN _ _ ⟨_,rfl,s7,.inr ⟨r,es,rfl,hr,h1,h2⟩⟩⟩
 rintro _ yR σ H7 ⟨av,rfl,s7,⟨rfl,bh⟩|⟨f,es,rfl,hf,hcov,hle⟩⟩<;>subst yR
 .have S7:=S6.trans s7;rfl';refine⟨_,_,_,S7 _ _ hx,T.bG,T.sW,_,rfl,?_⟩;refine⟨c,m,ws,cs,m.toNat+1,rfl,by lia,by lia,s7 _ _ hc,hC.imp λ_ _ r=>r.same s7,bq,bh,λv H8 s8 h8=>⟨a7,λz hz=>?_⟩⟩;have u1:=au (o:=.tup [.str "never",v]) hz;exact Q1 _ _ (S7.trans (s8.trans u1)) (.pap z v _ pp gs rfl ax (h8.same u1) (Yw (IV _ _) (by lia)) ep eg (Gr _ _ _ bh (by rw[aaR];lia) (snd_mk hot (λmm hm=>(IX hm).2) hsnd)))
 .have S7:=S6.trans s7;have M3:∀ mm∈fj gs++dP tb es,mm.1<=pp.length:=λmm hm=>by
   rcases Y3.mp hm with z|z
   .exact M1 mm z
   .obtain⟨r,hr,_,rfl⟩:=yX.mp z;exact M2 r hr
  have Vs:=Rg hot ay M3 hcov qC;rfl';refine⟨x,p,f,e,t,u,d,m,tb,es,rfl,hb.same S7,hot.1,by lia,λr hr=>(hot.2 r hr).2.1,ai.of hf,by lia,λr rs H8 s8 hr pH=>⟨r,rfl,vs,(s6.trans (s7.trans s8)) _ _ hkl,rs,hr,?_,λk2 hJ=>?_⟩⟩
  .replace pH:az (dQ H8) rs (dP tb es):=pH;have e1:=pH.len;have e2:(dP tb es).length<=tb.length:=by unfold dP;rw[Yq];exact Yw (Y2 _ _) (by rw[oI];exact Yz _)
   exact Yw (by lia:_<=100) (by decide)
  replace pH:az (dQ H8) rs (dP tb es):=pH;have u1:=au (o:=.lst (vs++rs)) hJ;have W:=s5.trans (s6.trans (s7.trans (s8.trans u1)));have X8:=S7.trans (s8.trans u1);have ml:(fj gs++dP tb es).length<=1000:=by
   rw[YO,vR];have e2:(dP tb es).length<=tb.length:=by unfold dP;rw[Yq];exact Yw (Y2 _ _) (by rw[oI];exact Yz _)
   lia
  refine⟨s,k2,ys,vs++rs,pp,fj gs++dP tb es,rfl,ai.of (W _ _ cA),IY.same W,ai.of ax,az.app (hM.imp λ_ _ r=>r.same (s6.trans (s7.trans (s8.trans u1)))) (pH.imp λ_ _ r=>r.same u1),ay,by lia,ml,M3,λbh=>absurd Vs bh,λl9 co H9 s9 f9 vU Yj dA Ja=>⟨a7,λz hz=>?_⟩⟩;have u9:=au (o:=.tup [.str "may",.ref l9]) hz;refine Q1 _ _ (X8.trans (s9.trans u9)) (.may z l9 co pp gs es rfl ax (u9 _ _ vU) (X8.free f9) (by lia) ep eg dA (λtt ss hh=>?_) (by lia) λmm hm=>Ja mm (YX _ hm));refine Ja (tt,ss) (Z4 _ (Zy.mpr ⟨tt,?_⟩));have Vt:=(Yx.mp hh).1;unfold fj;rw[YG,ZT Vt];show some (tt,gs.getD tt _)=_;rw[Yr,hh];rfl
theorem Br(f:P2->Int):∀ {n:Nat},i+n<=ps.length->((YZ n).map λk=>f (aE ps (i+k))).sum=pre f ps (i+n)-pre f ps i
 | 0,_=>by simp
 | n+1,h=>by rw[aeb,Z1,afU,Br f (by lia),show i+(n+1)=i+n+1 by lia,fK _ _ (by lia)];simp only[YV,acN,aeR,agy];lia
theorem Jb{H:Hp}{ps:List P2}{i n:Nat}{f:P2->Int}{te:TE}{ρ:St}{Q:VK}(h9:n<=900)(he:∀ k:Nat,k<n->∀ Q:VK,Q (.int (f (aE ps (i+k)))) H->te (some (.int ((i:Int)+(k:Nat)))::ρ) H Q)
 (q:∀ l,H l=none->Q (.ref l) (upd H l (.lst (((YZ n).map λk=>f (aE ps (i+k))).map V.int)))):ko (gK (i:Int) n) ρ xt te H Q:=by
 refine cF iL (by rw[Yq,YE];exact Yw h9 (by decide)) (mJ (R:=λx (k:Nat)=>x=V.int ((i:Int)+(k:Nat))) (as:=YZ n) (p:=λ_=>true) (f:=λk=>.int (f (aE ps (i+k)))) trivial ?_ (λ_ _ _ _ Q h=>h) (λx k hk _ r Q h=>?_) ?_)
 .exact az.vS (by rw[Yq]) λj x a h1 h2=>by rw[YG,h2] at h1;cases h1;rfl
 .subst r;exact he k (Zp.mp hk) Q h
 .rw[Y0,aay.mpr λ_ _=>rfl];rw[ZH] at q;exact q
inductive Vu(K:Yp)(vs:List V)(H:Hp)(Q:VK)(aP:XK):Prop
 | mk(s:YC)(zs:List V)(ps:List P2)(i j:Nat)(_:vs=[.ref s,.int i,.int j])(_:ai K H s zs)(_:bL H zs ps)(_:ps.length<=900)(_:i<=ps.length)(_:j<=ps.length)(_:∀ H',aj H H'->Q (.int (bw ps i j)) H')
theorem Vv(T:Tx K mg):Ok P w base 1 T.lY (Vu K):=by
 refine bf AN ?_;rintro _ _ _ s H _ Q _ _ ⟨s,zs,ps,i,j,rfl,hs,hP,h9,hi,hj,q⟩;refine⟨_,(ar (aJ 3 AN.nd (aZ (D4 rfl) (by rfl) T.HQ Dg (ae (c7 (bP.mk (fr:=[0]) (ys:=["_law_steps"]) rfl (by decide +kernel) rfl (by decide +kernel) rfl rfl (.cons rfl .nil) (.cons rfl rfl rfl rfl .nil) (by decide) rfl) rfl (j9 rfl T.cQ (ae (aa 1) (ae (aa 2) ag))) (λC s2 H2 ex pn=>⟨dO,(cI (K:=K) (cI (K:=K) (aa 1) (aa 0)) af)⟩)) ag)))
  (aw (aA (aG da (aa 3) (aZ (D4 rfl) (by rfl) T.HQ Dg (ae (c7 (bP.mk (fr:=[0]) (ys:=["_law_steps"]) rfl (by decide +kernel) rfl (by decide +kernel) rfl rfl (.cons rfl .nil) (.cons rfl rfl rfl rfl .nil) (by decide) rfl) rfl (j9 rfl T.cQ (ae (aa 2) (ae (aa 1) ag))) (λC s2 H2 ex pn=>⟨dO,(cI (K:=K) (cI (K:=K) (aa 1) (aa 0)) af)⟩)) ag)))))),?_⟩
 have hl:=hP.len;have row:∀ (H':Hp) (k:Nat),aj H H'->k<ps.length->∃ p,cC zs (k:Int)=some (.ref p)/\H' p=some (.tup [.int (aE ps k).1,.int (aE ps k).2]):=λH' k s' hk=>by obtain⟨v,hv,p,rfl,hp⟩:=hP.at (Ys (l:=ps) (i:=k) hk);refine⟨p,cZ hv,?_⟩;rw[show ps[k]=aE ps k by unfold aE;rw[Yr,Ys hk];rfl] at hp;exact s' _ _ hp
 rfl';refine⟨by lia,by lia,by lia,by lia,Jb (ps:=ps) (f:=λp=>p.2) (by lia) (λk hk Q h=>?_) λl kH=>?_⟩
 .obtain⟨p,e,hp⟩:=row H (i+k) (aj.refl _) (by lia);rfl';exact bz hs (by rw[<- e];congr 1) (ak (ah.of hp) rfl h)
 have u1:=au (o:=.lst (((YZ (((j:Int)-(i:Int)).toNat)).map λk=>(aE ps (i+k)).2).map V.int)) kH;refine⟨l,rfl,_,ai.of ax,by lia,by lia,by lia,by lia,Jb (ps:=ps) (f:=λp=>p.1) (by lia) (λk hk Q h=>?_) λl2 bA=>?_⟩
 .obtain⟨p,e,hp⟩:=row _ (j+k) u1 (by lia);rfl';exact bz (u1.seq hs) (by rw[<- e];congr 1) (ak (ah.of hp) rfl h)
 refine⟨l2,rfl,_,ai.of ax,?_⟩;have fin:=q _ (u1.trans (au (o:=.lst (((YZ (((i:Int)-(j:Int)).toNat)).map λk=>(aE ps (j+k)).1).map V.int)) bA));have e:bw ps i j=((YZ (((j:Int)-(i:Int)).toNat)).map λk=>(aE ps (i+k)).2).sum-((YZ (((i:Int)-(j:Int)).toNat)).map λk=>(aE ps (j+k)).1).sum:=by
  unfold bw;by_cases gu:i<=j
  .rw[if_pos gu,show ((i:Int)-(j:Int)).toNat=0 by lia,Br (λp=>p.2) (by lia),show i+((j:Int)-(i:Int)).toNat=j by lia];simp
  .rw[if_neg gu,show ((j:Int)-(i:Int)).toNat=0 by lia,Br (λp=>p.1) (by lia),show j+((i:Int)-(j:Int)).toNat=i by lia];simp;lia
 rw[e] at fin;exact fin
inductive Vw(K:Yp)(vs:List V)(H:Hp)(Q:VK)(aP:XK):Prop
 | mk(v:V)(w a b z:YC)(e t u d mo:Int)(zs:List V)(gs:List S2)(tb:Tb)(as:List Int)(s:En × Nat)(m:Mk)(_:vs=[v,.ref b,.ref a,.ref z])(_:fB H v w e t u d mo tb)(_:(tb.map (·.1)).Nodup)(_:H a=some (.tup [ev s.1,.int (s.2:Int)]))(_:ai K H b zs)(_:az (λv x=>aK H v x.1 x.2) zs gs)(_:(∀ x∈gs,aW x.1 x.2=false))(_:H z=some (.lst (as.map V.int)))(_:iU gs tb as s m)(_:(∀ r∈tb,r.1.2.toNat<gs.length))(_:∀ v,aK H v m.2.1 m.2.2->Q v H)
theorem Jc(T:Tx K mg):Ok P w base 2 T.i6 (Vw K):=by
 refine bf HJ ?_;rintro _ _ _ _ _ _ _ _ hr ⟨v,w,a,b,z,e,t,u,d,mo,zs,gs,tb,as,⟨o,k⟩,⟨k2,wd⟩,rfl,⟨r,rfl,hR,hT⟩,fA,ha,hb,hG,dA,hz,⟨hk,hm⟩,aT,q⟩;refine⟨_,(ar (aI (PW.pt (bZ (bR (bQ (aZ kh (by rfl) T.i8 iB (ae (aa 2) (ae (j5 (v:=.ty "tuple") rfl T.vC ue rfl) ag))))) (dJ (kN (aZ cV (by rfl) T.cJ cD (ae (aa 2) ag)) af)))) (aw (aA bH)) aH)
  (ar (aI (PW.pt (bZ (bR (bQ (aF (pq T) hr (ae (aq (aa 2) af) ag)))) (bZ (lN (aq (aa 2) af) af) (dJ (kM (aq (aa 2) af) (aZ cV (by rfl) T.cJ cD (ae (aa 1) ag))))))) (aw (aA bH)) aH)
  (ar (aI (dG (aq (aa 2) af)) (ar (aI (bQ (aF (AZ T) hr (ae (aq (aa 1) (aq (aa 2) af)) ag))) (aw (aA bH)) aH)
    (aw (aA (aq (aa 1) (aq (aa 2) af))))) aH)
  (ar (aI (PW.pt (bZ (bR (bQ (aF (pq T) hr (ae (aq (aa 2) af) ag)))) (bZ (jn LI (aq (aa 2) af) (aa 3) (by with_unfolding_all rfl)) (dJ (tQ (EH (eY hr) (aa 2) (aq (aa 0) af))))))) (aw (aA bH)) aH)
  (aw (aA (uL (eY hr) (aq (aa 0) af) (aa 2) (λ_ _=>rfl)))))))),?_⟩
 obtain rfl:k2=k:=hk;have gB:=hG.len;have fE:k2<zs.length:=by
  cases o with
  | none =>
   have:=(Yx.mp (show gs[k2]?=some wd from hm)).1;lia
  | some x =>
   have:=aT _ hm.2;rw[Zm] at this;lia
 rfl';refine uf ha ?_;rfl';refine⟨_,n0 (ah.of ha),?_⟩;rfl';refine ak (ah.of ha) (v:=.int k2) rfl ⟨_,rfl,.inr ⟨_,rfl⟩,?_⟩;simp only[isWhole];rfl';refine ak (ah.of ha) (v:=.int k2) rfl ?_;rfl';refine aN (λh0=>absurd h0 (by lia)) λ_=>ak (ah.of ha) (v:=.int k2) rfl ⟨_,dY hb,?_⟩;rfl';refine aN (λh0=>absurd h0 (by lia)) λ_=>ak (ah.of ha) (v:=ev o) rfl ?_;cases o with
 | none =>
  obtain⟨v,hv,pz,rfl,hp⟩:=hG.at (i:=k2) (a:=wd) hm;rfl';refine ak (ah.of ha) (v:=.int k2) rfl (bz hb (cZ hv) ⟨pz,wd.1,wd.2,rfl,ah.of hp,?_⟩);rw[dA wd (Zy.mpr ⟨_,hm⟩)];rfl';exact ak (ah.of ha) (v:=.int k2) rfl (bz hb (cZ hv) (q _ ⟨pz,rfl,hp⟩))
 | some e =>
  rfl';refine ak (ah.of ha) (v:=.int e) rfl ⟨_,rfl,.inr ⟨_,rfl⟩,?_⟩;simp only[isWhole];rfl';refine ak (ah.of ha) (v:=.int e) rfl ?_;rfl';obtain⟨zg,bI⟩:e∉as/\((e,((k2:Nat):Int)),wd)∈tb:=hm;obtain⟨kvs,hkv,hA⟩:=id hT;obtain⟨vv,hvv,va,rfl,hva⟩:=(hA.val (e,((k2:Nat):Int))).2 _ (oH fA bI);refine⟨z,_,rfl,.inl (ai.of hz),rfl,FD as,⟨_,rfl,?_⟩⟩;rw[yE];refine aN (λh0=>absurd h0 (by simpa using zg)) λ_=>?_;refine ak (ah.of hR) (v:=.ref w) rfl ?_;rfl';refine⟨_,eL.t (k:=bB e (k2:Int)) hkv ha,?_⟩;rw[hvv];refine aN (λh0=>nomatch h0) λ_=>?_;refine ak (ah.of hR) (v:=.ref w) rfl ?_;exact⟨w,rfl,.ref va,by rw[<- hvv];exact eL.t (k:=bB e (k2:Int)) hkv ha,q _ ⟨va,rfl,hva⟩⟩
inductive Vx(K:Yp)(vs:List V)(H:Hp)(Q:VK)(aP:XK):Prop
 | mk(v:V)(w c:YC)(e t u d m:Int)(tb:Tb)(cs:List Int)(_:vs=[v,.ref c])(_:fB H v w e t u d m tb)(_:1<=t)(_:t<=12)(_:bV e t tb)(_:tb.length<=60)(_:H c=some (.lst (cs.map V.int)))(_:cs.length=t.toNat)(_:(∀ k,k+1<cs.length->-d<=cP cs (k+1)-cP cs k/\cP cs (k+1)-cP cs k<=u))(_:(∀ zs:List Int,zs.Nodup->(∀ i,i∈zs↔A5 tb cs i)->(zs.length:Int)<=m))(_:∀ H',aj H H'->Q (.bl true) H')
inductive vV(H:Hp)(v:V)(c:YC)(_:Nat)(σ:St)(H1:Hp):Prop
 | mk(e1:Option V)(_:σ=[some v,some (.ref c),e1])(_:aj H H1)
theorem Jd(T:Tx K mg):Ok P w base 3 T.sJ (Vx K):=by
 refine bf AM ?_;rintro _ _ _ _ H _ Q _ hr ⟨v,w,c,e,t,u,d,m,tb,cs,rfl,hW,t1,t2,ay,cc,hc,bq,cn,lF,q⟩;refine⟨_,(ar (aI (PW.pt (bZ (bR (bQ (aZ kh (by rfl) T.i8 iB (ae (aa 1) (ae (j5 (v:=.ty "list") rfl T.pf nZ rfl) ag))))) (dJ (kN (aZ cV (by rfl) T.cJ cD (ae (aa 1) ag)) (aq (aa 0) af))))) (aw (aA cg)) aH)
  (ar (aI (bR (bQ (aZ (D5 rfl) (by rfl) T.HL Df (ae (c7 (bP.mk (fr:=[]) (ys:=[]) rfl (by decide +kernel) rfl (by decide +kernel) rfl rfl .nil .nil (by decide) rfl) rfl (cU (aa 1)) (λC s2 H2 ex pn=>⟨dO,(aF (pq T) hr (ae (aa 0) ag))⟩)) ag)))) (aw (aA cg)) aH)
  (ar (cu Zd rfl (fH rfl T.cQ (ae (aG da (aq (aa 0) af) af) ag)) (bX 2 AM.nd) (aw (aI (bR (bQ (aF (Ia T) hr (ae (aS (ae (aG da af (aq (aa 0) af)) (ae (aq (aa 0) af) ag))) (ae (aG da (aq (aa 1) (aG bp (aa 2) af)) (aq (aa 1) (aa 2))) ag))))) (aw (aA cg)) aH)))
  (aw (aA (eG (iV eF) (aF (Up T) hr (ae (aa 0) (ae (aa 1) ag))) (aq (aa 0) af) (cB _))))))),?_⟩
 obtain⟨r,rfl,hR,hT⟩:=id hW;refine aC (vV H (.ref r) c 0) (λN hN=>?_) ?_
 .rfl';refine xm hc ?_;rfl';refine⟨_,dY (ai.of hc),ak (ah.of hR) (v:=.int t) rfl ?_⟩;rw[Yq,bq];rfl';rw[if_neg (λz=>z (by lia))];exact hN _ _ ⟨_,rfl,aj.refl _⟩
 rintro _ yR σ H1 ⟨e1,rfl,s1⟩;subst yR;refine aC (vV H (.ref r) c 0) (λN hN=>?_) ?_
 .rfl';refine⟨⟨_,ai.of (s1 _ _ hc)⟩,cF iK (Yw (by rw[Yq];lia:(cs.map V.int).length<=100) (by decide)) (mJ (R:=λx (n:Int)=>x=V.int n) (as:=cs) (p:=λ_=>true) (f:=λ_=>.bl true) (ai.of (s1 _ _ hc)) ?_ (λ_ _ _ _ Q h=>h) (λx n _ _ r Q h=>?_) λl hl=>?_)⟩
  .exact az.vS (by rw[Yq]) λj x a h1 h2=>by rw[YG,h2] at h1;cases h1;rfl
  .subst r;rfl';refine⟨_,rfl,.inr ⟨_,rfl⟩,?_⟩;simp only[isWhole];exact h
  .rw[Y0,aay.mpr λ_ _=>rfl];refine⟨l,rfl,cs.map λ_=>true,ai.of (by rw[ax,ZH];rfl),?_⟩;rw[if_neg (by simp)];exact hN _ _ ⟨_,rfl,s1.trans (au hl)⟩
 rintro _ yR σ H2 ⟨e1,rfl,s2⟩;subst yR;refine aC (vV H (.ref r) c 0) (λN hN=>?_) ?_
 .rfl';refine ak (ah.of (s2 _ _ hR)) (v:=.int t) rfl ?_;rfl';refine⟨by lia,by lia,iD (vV H (.ref r) c) ⟨_,rfl,s2⟩ ?_ (λσ H3 ⟨e1,h1,h2⟩=>hN _ _ ⟨e1,h1,h2⟩)⟩;rintro i σ H3 hi ⟨e1,rfl,s3⟩;rfl';refine ak (ah.of (s3 _ _ hR)) (v:=.int d) rfl (ak (ah.of (s3 _ _ hR)) (v:=.int u) rfl ⟨a7,λp hp=>?_⟩);have u4:=au (o:=.tup [.int (0-d),.int u]) hp;have S4:=s3.trans u4;have bi:i+1<cs.length:=by lia
  refine bz (ai.of (S4 _ _ hc)) (int_at (by lia) (by lia)) (bz (ai.of (S4 _ _ hc)) (int_at (by lia) (by lia)) ⟨p,some (0-d),some u,_,rfl,ah.of ax,?_⟩);have hs:=cn i bi;unfold cP at hs;rw[show ((0:Int)+(i:Int)+1).toNat=i+1 by lia,show ((0:Int)+(i:Int)).toNat=i by lia,uG.mpr ⟨λx hx=>by cases hx;lia,λx hx=>by cases hx;lia⟩];rfl';exact⟨_,rfl,S4⟩
 rintro _ yR σ H3 ⟨e1,rfl,s3⟩;subst yR;rfl';refine⟨.ref r,w,c,e,t,u,d,m,tb,cs,rfl,hW.same s3,ay,cc,ai.of (s3 _ _ hc),bq,λzs H4 s4 hz hm=>?_⟩;rfl';refine ak (ah.of ((s3.trans s4) _ _ hR)) (v:=.int m) rfl ?_;rfl';rw[decide_eq_true (lF zs hz hm)];exact q _ (s3.trans s4)
noncomputable def fZ(s:S2):W2:=if aW s.1 s.2=true then none else some s
theorem Vy(h:fZ s=some x):s=x/\aW s.1 s.2=false:=by
 unfold fZ at h;split at h
 .cases h
 .rename_i hc;exact⟨Option.some.inj h,by simpa using hc⟩
theorem Je(h:fZ s=none):aW s.1 s.2=true:=by
 unfold fZ at h;split at h
 .rename_i hc;exact hc
 .cases h
theorem Bs:∀ {gs:List S2} {fs:List S2},gs.map fZ=fs.map some->gs=fs/\∀ x∈gs,aW x.1 x.2=false
 | [],[],_=>⟨rfl,λ_ h=>nomatch h⟩
 | [],_::_,h=>nomatch h
 | _::_,[],h=>nomatch h
 | g::gs,f::fs,h=>by
  obtain⟨h1,h2⟩:=List.cons.inj h;obtain⟨rfl,h3⟩:=Vy h1;obtain⟨rfl,h4⟩:=Bs h2;refine⟨rfl,λx hx=>?_⟩;rcases YK.mp hx with rfl|hx
  .exact h3
  .exact h4 x hx
theorem Vz(h:az (λv x=>aK H v x.1 x.2) ys sl)(e:sl.map fZ=pp.map fS):bL H ys pp/\(∀ x∈sl,aW x.1 x.2=false)/\sl.length=pp.length:=by obtain⟨rfl,h2⟩:=Bs (fs:=pp.map λp=>(some p.1,some p.2)) (by rw[e,ZH];rfl);refine⟨?_,h2,by rw[Yq]⟩;exact (az.bind h:az (λv (p:P2)=>aK H v (some p.1) (some p.2)) ys pp)
inductive pI(H:Hp)(wv:V)(w s gl:YC)(sl gs:List S2)(e t u d m:Int)(tb:Tb):Prop
 | mk(ys zs:List V)(_:fB H wv w e t u d m tb)(_:H s=some (.lst ys))(_:az (λv x=>aK H v x.1 x.2) ys sl)(_:H gl=some (.lst zs))(_:az (λv x=>aK H v x.1 x.2) zs gs)(_:gs.length=sl.length+1)(_:sl.length<=900)(_:(tb.map (·.1)).Nodup)(_:∀ r∈tb,r.1.2.toNat<=sl.length)
theorem pI.same(h:pI H wv w s gl sl gs e t u d m tb)(x:aj H H'):pI H' wv w s gl sl gs e t u d m tb:=let ⟨ys,zs,a,b,c,d,e,f,g,i,j⟩:=h;⟨ys,zs,a.same x,x _ _ b,c.imp λ_ _ r=>r.same x,x _ _ d,e.imp λ_ _ r=>r.same x,f,g,i,j⟩
inductive gH(H:Hp)(v:V)(sw gw:List W2)(tb:Tb)(m:Int)(as:List Int)(N:Nat):Prop
 | mj (k:YC) (j:Nat) (_:v = .ref k) (_:H k=some (.tup [.str "step",.int (j:Int)])) (_:sw[j]?=some none)
 | gol (k:YC) (j:Nat) (_:v = .ref k) (_:H k=some (.tup [.str "at",.int (j:Int)])) (_:gw[j]?=some none)
 | pap (t:Pp) (pp:List P2) (gs:List S2) (_:ee H v t) (_:di t<N) (_:sw=pp.map fS) (_:gw=gs.map some) (_:Val pp gs tb m t as)
theorem gH.same{H H':Hp}{v:V}{sw gw:List W2}{tb:Tb}{m:Int}{as:List Int}{N:Nat}(h:gH H v sw gw tb m as N)(s:aj H H'):gH H' v sw gw tb m as N:=by
 rcases h with ⟨k,j,e,h1,h2⟩|⟨k,j,e,h1,h2⟩|⟨t,pp,gs,h1,h2,h3,h4,h5⟩
 .exact .mj k j e (s _ _ h1) h2
 .exact .gol k j e (s _ _ h1) h2
 .exact .pap t pp gs (h1.same s) h2 h3 h4 h5
inductive vW(K:Yp)(N:Nat)(vs:List V)(H:Hp)(Q:VK)(aP:XK):Prop
 | mk(wv v:V)(w s gl z:YC)(e t u d m:Int)(sl gs:List S2)(tb:Tb)(as:List Int)(_:vs=[wv,.ref s,.ref gl,v,.ref z])(_:0<N)(_:N<=10)(_:pI H wv w s gl sl gs e t u d m tb)(_:H z=some (.lst (as.map V.int)))(_:as.length+N<=30)(_:gH H v (sl.map fZ) (gs.map fZ) tb m as N)(_:∀ H',aj H H'->Q (.bl true) H')
def Jf(pp:List P2)(fs:List S2)(tb:Tb)(m:Int)(a:Pp)(as:List Int)(o:En):Prop:=match o with|none=>a = .nil|some e=>Val pp fs tb m a (as++[e])
inductive Jg(K:Yp)(N:Nat)(vs:List V)(H:Hp)(Q:VK)(aP:XK):Prop
 | mk(wv v:V)(w s gl z:YC)(e t u d m:Int)(sl gs fs:List S2)(pp:List P2)(tb:Tb)(as:List Int)(o:En)(a:Pp)(_:vs=[wv,.ref s,.ref gl,v,ev o,.ref z])(_:N<=10)(_:pI H wv w s gl sl gs e t u d m tb)(_:H z=some (.lst (as.map V.int)))(_:as.length+1+N<=30)(_:ee H v a)(_:di a<N)(_:sl.map fZ=pp.map fS)(_:gs.map fZ=fs.map some)(_:Jf pp fs tb m a as o)(_:∀ H',aj H H'->Q (.bl true) H')
inductive VA(K:Yp)(N:Nat)(vs:List V)(H:Hp)(Q:VK)(aP:XK):Prop
 | mk(wv v:V)(w s gl z:YC)(e t u d m:Int)(sl gs fs:List S2)(pp:List P2)(tb:Tb)(as:List Int)(c:Cl)(a b:Pp)(_:vs=[wv,.ref s,.ref gl,v,.ref z])(_:N<=10)(_:pI H wv w s gl sl gs e t u d m tb)(_:H z=some (.lst (as.map V.int)))(_:as.length+1+N<=30)(_:ee H v (.cls c a b))(_:di a<N)(_:di b<N)(_:sl.map fZ=pp.map fS)(_:gs.map fZ=fs.map some)(_:Val pp fs tb m (.cls c a b) as)(_:∀ H',aj H H'->Q (.bl true) H')
theorem Jh(T:Tx K mg)(N:Nat)(ih:Ok P w base (3 * N+3) T.gC (vW K N)):Ok P w base (3 * N+4) T.ig (Jg K N):=by
 refine okN T.ig.F HK.1 (λvs H Q E h=>?_) (λaV A outer s H vs Q E hr h=>?_)
 .obtain⟨wv,v,w,s,gl,z,e,t,u,d,m,sl,gs,fs,pp,tb,as,o,a,rfl,_⟩:=h;rfl
 .obtain⟨wv,v,w,s,gl,z,e,t,u,d,m,sl,gs,fs,pp,tb,as,o,a,rfl,hN,hK,hz,hl,ha,la,e1,e2,hv,q⟩:=h;refine⟨_,(ar (aI (dG (aa 4)) (aw (aA (kZ (pV (aa 3))))) aH)
  (aw (aA (bC ih (hr.mono (by lia)) rfl T.gC.m T.gC.F.kp T.gC.b .nil bO (ae (aa 0) (ae (aa 1) (ae (aa 2) (ae (aa 3) (ae (aG lg (aa 5) (cX (ae (aa 4) ag))) ag))))))))),?_⟩
  rfl';cases o with
  | none =>
   obtain rfl:a = .nil:=hv;obtain rfl:v = .non:=ha;rfl';exact q _ (aj.refl _)
  | some x =>
   rfl';refine⟨by decide,λp1 ip=>?_⟩;have u1:=au (o:=.lst [.int x]) ip;refine⟨_,u1 _ _ hz,_,ax,Yw (by rw[Yq,YY];lia:_<=100) (by decide),λp2 fM=>?_⟩;have u2:=au (o:=.lst (as.map V.int++[.int x])) fM;have U:=u1.trans u2;exact⟨wv,v,w,s,gl,p2,e,t,u,d,m,sl,gs,tb,as++[x],rfl,by lia,hN,hK.same U,by rw[Z1];exact ax,by rw[YO,YY];lia,.pap a pp fs (ha.same U) la e1 e2 hv,λH' s'=>q _ (U.trans s')⟩
theorem Ji(h:iU gs tb as s m)(hg:gs.length=n+1)(ht:∀ r∈tb,r.1.2.toNat<=n):m.1<=n:=by
 obtain⟨e,h⟩:=h;rw[e];obtain⟨o,k⟩:=s;cases o with
 | none =>
  have:=(Yx.mp (show gs[k]?=some m.2 from h)).1;show k<=n;lia
 | some x=>exact ht _ h.2
theorem VB(T:Tx K mg)(N:Nat)(ih:Ok P w base (3 * N+3) T.gC (vW K N)):Ok P w base (3 * N+5) T.kT (VA K N):=by
 refine okN T.kT.F vy.1 (λvs H Q E h=>?_) (λaV A outer s H vs Q E hr h=>?_)
 .obtain⟨wv,v,w,s,gl,z,e,t,u,d,m,sl,gs,fs,pp,tb,as,c,a,b,rfl,_⟩:=h;rfl
 .obtain⟨wv,v,w,s,gl,z,e,t,u,d,m,sl,gs,fs,pp,tb,as,⟨⟨o,i⟩,⟨o2,i2⟩⟩,a,b,rfl,hM,hK,hz,hl,⟨k,p,p2,x,y,rfl,hk,hp,fM,hx,hy⟩,la,lb,e1,e2,⟨⟨mm,nn,mA,mB,bq⟩,va,vb⟩,q⟩:=h;refine⟨_,(ar (iy (i:=5) vy.nd rfl (aca rfl) (bC (Jc T) (hr.mono (by lia)) rfl T.i6.m T.i6.F.kp T.i6.b .nil bO (ae (aa 0) (ae (aa 2) (ae (bb bc (aa 3) af (λ_ _=>rfl)) (ae (aa 4) ag))))))
  (ar (iy (i:=6) vy.nd rfl (aca rfl) (bC (Jc T) (hr.mono (by lia)) rfl T.i6.m T.i6.F.kp T.i6.b .nil bO (ae (aa 0) (ae (aa 2) (ae (bb bc (aa 3) af (λ_ _=>rfl)) (ae (aa 4) ag))))))
  (ar (aI (PW.pt (bZ (dG (aa 5)) (bZ (dG (aa 6)) (dJ (bQ (aZ (D6 rfl) (by rfl) T.HM De (ae (c7 (bP.mk (fr:=[]) (ys:=[]) rfl (by decide +kernel) rfl (by decide +kernel) rfl rfl .nil .nil (by decide) rfl) rfl (cU (aa 1)) (λC s2 H2 ex pn=>⟨dO,(bC (AZ T) (hr.mono (by lia)) rfl T.i5.m T.i5.F.kp T.i5.b .nil bO (ae (aa 0) ag))⟩)) ag))))))) (aw (aA cg)) aH)
  (ar (aI (PW.pt (bZ (dG (bb bc (aa 5) af (λ_ _=>rfl))) (dJ (dG (bb bc (aa 6) af (λ_ _=>rfl)))))) (aw (aA cg)) aH)
  (ar (aI (vg (bb bc (aa 6) af (λ_ _=>rfl)) (aG bp (bb bc (aa 5) af (λ_ _=>rfl)) (bC (Vv T) (hr.mono (by lia)) rfl T.lY.m T.lY.F.kp T.lY.b .nil bO (ae (aa 1) (ae (bb bc (bb bc (aa 3) af (λ_ _=>rfl)) af (λ_ _=>rfl)) (ae (bb bc (bb bc (aa 3) af (λ_ _=>rfl)) af (λ_ _=>rfl)) ag)))))) (aw (aA cg)) aH)
  (ar (aI (bR (bQ (bC (Jh T N ih) (hr.mono (by lia)) rfl T.ig.m T.ig.F.kp T.ig.b .nil bO (ae (aa 0) (ae (aa 1) (ae (aa 2) (ae (bb bc (aa 3) af (λ_ _=>rfl)) (ae (bb bc (bb bc (aa 3) af (λ_ _=>rfl)) af (λ_ _=>rfl)) (ae (aa 4) ag))))))))) (aw (aA cg)) aH)
  (ar (aI (PW.pt (gh (fT (bb bc (bb bc (aa 3) af (λ_ _=>rfl)) af (λ_ _=>rfl))) (gI (bW (bb bc (bb bc (aa 3) af (λ_ _=>rfl)) af (λ_ _=>rfl)) (bb bc (bb bc (aa 3) af (λ_ _=>rfl)) af (λ_ _=>rfl)))))) (aw (aA (kZ (pV (bb bc (aa 3) af (λ_ _=>rfl)))))) aH)
  (aw (aA (bC (Jh T N ih) (hr.mono (by lia)) rfl T.ig.m T.ig.F.kp T.ig.b .nil bO (ae (aa 0) (ae (aa 1) (ae (aa 2) (ae (bb bc (aa 3) af (λ_ _=>rfl)) (ae (bb bc (bb bc (aa 3) af (λ_ _=>rfl)) af (λ_ _=>rfl)) (ae (aa 4) ag)))))))))))))))),?_⟩
  obtain⟨ys,zs,hW,hs,hS,hg,hG,gB,hn,fA,hle⟩:=id hK;obtain⟨rfl,dA⟩:=Bs e2;obtain⟨hP,hcs,dM⟩:=Vz hS e1;dsimp only at va vb hp fM;have lt:∀ r∈tb,r.1.2.toNat<gs.length:=λr hr=>by have:=hle r hr;lia
  refine aC (λσ H1=>∃ v1,σ=[some wv,some (.ref s),some (.ref gl),some (.ref k),some (.ref z),some v1,none]/\H1=H/\aK H v1 mm.2.1 mm.2.2) (λN hN=>?_) ?_
  .rfl';exact ak (ah.of hk) (v:=.ref p) rfl ⟨wv,w,p,gl,z,e,t,u,d,m,zs,gs,tb,as,(o,i),mm,rfl,hW,fA,hp,ai.of hg,hG,dA,hz,mA,lt,λv1 h1=>hN _ _ ⟨v1,rfl,rfl,h1⟩⟩
  rintro _ yR σ H1 ⟨v1,rfl,rfl,q1,rfl,Bu⟩;subst yR;refine aC (λσ H2=>∃ v2,σ=[some wv,some (.ref s),some (.ref gl),some (.ref k),some (.ref z),some (.ref q1),some v2]/\H2=H1/\aK H1 v2 nn.2.1 nn.2.2) (λN hN=>?_) ?_
  .rfl';exact ak (ah.of hk) (v:=.ref p2) rfl ⟨wv,w,p2,gl,z,e,t,u,d,m,zs,gs,tb,as,(o2,i2),nn,rfl,hW,fA,fM,ai.of hg,hG,dA,hz,mB,lt,λv1 h1=>hN _ _ ⟨v1,rfl,rfl,h1⟩⟩
  rintro _ yR σ H2 ⟨v2,rfl,rfl,q2,rfl,Bv⟩;subst yR;refine aC (λσ H3=>σ=[some wv,some (.ref s),some (.ref gl),some (.ref k),some (.ref z),some (.ref q1),some (.ref q2)]/\aj H2 H3) (λN hN=>?_) ?_
  .rfl';refine⟨⟨_,ai.of hs⟩,cF iK (Yw (by rw[hS.len];lia:ys.length<=1000) (by decide)) (mJ (R:=λx (n:S2)=>aK H2 x n.1 n.2) (as:=sl) (p:=λ_=>true) (f:=λ_=>.bl false) (ai.of hs) hS (λ_ _ _ _ Q h=>h) (λx n hn _ r Q h=>?_) λl hl=>?_)⟩
   .obtain⟨pa,rfl,eS⟩:=r;rfl';refine⟨pa,n.1,n.2,rfl,ah.of eS,?_⟩;rw[hcs n hn];exact h
   .rw[Y0,aay.mpr λ_ _=>rfl];refine⟨l,rfl,sl.map λ_=>false,ai.of (by rw[ax,ZH];rfl),?_⟩;rw[if_neg (by simp)];exact hN _ _ ⟨rfl,au hl⟩
  rintro _ yR σ H3 ⟨rfl,s3⟩;subst yR;obtain⟨hh,ll,h1,h2,h3⟩:=bq;rw[h1] at Bu;rw[h2] at Bv;refine aC (λσ H4=>σ=[some wv,some (.ref s),some (.ref gl),some (.ref k),some (.ref z),some (.ref q1),some (.ref q2)]/\H4=H3) (λN hN=>?_) ?_
  .rfl';refine ak (ah.of (s3 _ _ Bu)) (v:=.int hh) rfl ?_;rfl';refine ak (ah.of (s3 _ _ Bv)) (v:=.int ll) rfl ?_;rfl';exact hN _ _ ⟨rfl,rfl⟩
  rintro _ yR σ H4 ⟨rfl,rfl⟩;subst yR;refine aC (λσ H5=>σ=[some wv,some (.ref s),some (.ref gl),some (.ref k),some (.ref z),some (.ref q1),some (.ref q2)]/\aj H2 H5) (λN hN=>?_) ?_
  .rfl';refine ak (ah.of (s3 _ _ Bv)) (v:=.int ll) rfl (ak (ah.of (s3 _ _ Bu)) (v:=.int hh) rfl (ak (ah.of (s3 _ _ hk)) (v:=.ref p) rfl (ak (ah.of (s3 _ _ hp)) (v:=.int i) rfl (ak (ah.of (s3 _ _ hk)) (v:=.ref p2) rfl (ak (ah.of (s3 _ _ fM)) (v:=.int i2) rfl ?_)))));have ma:=Ji mA gB hle;have mb:=Ji mB gB hle;have ea:mm.1=i:=mA.1;have eb:nn.1=i2:=mB.1;rw[ea] at ma h3;rw[eb] at mb h3;refine⟨s,ys,pp,i,i2,rfl,ai.of (s3 _ _ hs),hP.imp λ_ _ r=>r.same s3,by lia,by lia,by lia,λH5 s5=>?_⟩;rfl';rw[if_neg (by lia)];exact hN _ _ ⟨rfl,s3.trans s5⟩
  rintro _ yR σ H5 ⟨rfl,s5⟩;subst yR;refine aC (λσ H6=>σ=[some wv,some (.ref s),some (.ref gl),some (.ref k),some (.ref z),some (.ref q1),some (.ref q2)]/\aj H2 H6) (λN hN=>?_) ?_
  .rfl';refine ak (ah.of (s5 _ _ hk)) (v:=x) rfl (ak (ah.of (s5 _ _ hk)) (v:=.ref p) rfl (ak (ah.of (s5 _ _ hp)) (v:=ev o) rfl ?_));refine⟨wv,x,w,s,gl,z,e,t,u,d,m,sl,gs,gs,pp,tb,as,o,a,rfl,hM,hK.same s5,s5 _ _ hz,hl,hx.same s5,la,e1,e2,va,λH6 s6=>?_⟩;rfl';exact hN _ _ ⟨rfl,s5.trans s6⟩
  rintro _ yR σ H6 ⟨rfl,s6⟩;subst yR;rfl';have last:∀ R:V->Hp->Prop,(∀ H',aj H2 H'->R (.bl true) H')->Jf pp gs tb m b as o2->kf K (.ref k) (.int 4) H6 λx H1=>kf K (.ref k) (.int 2) H1 λVC H1=>kf K VC (.int 0) H1 λVD H1=>Jg K N [wv,.ref s,.ref gl,x,VD,.ref z] H1 R E0:=λR hR hv =>
   ak (ah.of (s6 _ _ hk)) (v:=y) rfl (ak (ah.of (s6 _ _ hk)) (v:=.ref p2) rfl (ak (ah.of (s6 _ _ fM)) (v:=ev o2) rfl ⟨wv,y,w,s,gl,z,e,t,u,d,m,sl,gs,gs,pp,tb,as,o2,b,rfl,hM,hK.same s6,s6 _ _ hz,hl,hy.same s6,lb,e1,e2,hv,λH7 s7=>hR _ (s6.trans s7)⟩))
  refine ak (ah.of (s6 _ _ hk)) (v:=.ref p) rfl (ak (ah.of (s6 _ _ hp)) (v:=ev o) rfl ?_);cases o with
  | none =>
   rfl';refine last _ q ?_;cases o2 with
   | none=>exact vb
   | some x=>exact vb
  | some x0 =>
   rfl';refine ak (ah.of (s6 _ _ hk)) (v:=.ref p) rfl (ak (ah.of (s6 _ _ hp)) (v:=.int x0) rfl (ak (ah.of (s6 _ _ hk)) (v:=.ref p2) rfl (ak (ah.of (s6 _ _ fM)) (v:=ev o2) rfl ?_)));refine IM (o:=some x0) (o':=o2) ?_;cases o2 with
   | none=>exact last _ q vb
   | some x2 =>
    replace vb:if (some x0:En)=some x2 then b = .nil else Val pp gs tb m b (as++[x2]):=vb
    by_cases he:(some x0:En)=some x2
    .rw[decide_eq_true he];rw[if_pos he] at vb;subst vb;obtain rfl:y = .non:=hy;exact ak (ah.of (s6 _ _ hk)) (v:=.non) rfl (q _ s6)
    .rw[decide_eq_false he];rw[if_neg he] at vb;exact last _ q vb
theorem VE(T:Tx K mg):∀ N,Ok P w base (3 * N+3) T.gC (vW K N):=by
 intro N
 induction N with
 | zero =>
  refine okN T.gC.F o9.1 (λvs H Q E h=>?_) (λaV A outer s H vs Q E hr h=>?_)
  .obtain⟨wv,v,w,s,gl,z,e,t,u,d,m,sl,gs,tb,as,rfl,hN,_⟩:=h;exact absurd hN (ZK _)
  .obtain⟨wv,v,w,s,gl,z,e,t,u,d,m,sl,gs,tb,as,rfl,hN,_⟩:=h;exact absurd hN (ZK _)
 | succ N ih =>
  refine okN T.gC.F o9.1 (λvs H Q E h=>?_) (λaV A outer s H vs Q E hr h=>?_)
  .obtain⟨wv,v,w,s,gl,z,e,t,u,d,m,sl,gs,tb,as,rfl,_⟩:=h;rfl
  .obtain⟨wv,v,w,s,gl,z,e,t,u,d,m,sl,gs,tb,as,rfl,_,hM,hK,hz,hl,hR,q⟩:=h;refine⟨_,(ar (aI (PW.pt (bZ (bR (bQ (aZ kh (by rfl) T.i8 iB (ae (aa 3) (ae (j5 (v:=.ty "tuple") rfl T.vC ue rfl) ag))))) (dJ (bW (aZ cV (by rfl) T.cJ cD (ae (aa 3) ag)) af)))) (aw (aA cg)) aH)
    (ar (aI (bW (bb bc (aa 3) af (λ_ _=>rfl)) ba) (aw (aA (eR (eG nR (aZ cV (by rfl) T.cJ cD (ae (aa 3) ag)) af (cB _)) (ft (eG (iV qe) (aZ cV (by rfl) T.cJ cD (ae (aa 4) ag)) (bb bc (aa 0) af (λ_ _=>rfl)) (cB _)))))) aH)
    (ar (aI (bW (bb bc (aa 3) af (λ_ _=>rfl)) ba) (aw (aA (eR (eG nR (aZ cV (by rfl) T.cJ cD (ae (aa 3) ag)) af (cB _)) (ft (bC (VB T N ih) (hr.mono (by lia)) rfl T.kT.m T.kT.F.kp T.kT.b .nil bO (ae (aa 0) (ae (aa 1) (ae (aa 2) (ae (aa 3) (ae (aa 4) ag)))))))))) aH)
    (ar (iy (i:=5) o9.nd rfl (aca rfl) (cX ag))
    (ar (aI (bW (bb bc (aa 3) af (λ_ _=>rfl)) ba) (aw (iy (i:=5) o9.nd rfl (aca rfl) (aa 1))) aH)
    (ar (aI (bW (bb bc (aa 3) af (λ_ _=>rfl)) ba) (aw (iy (i:=5) o9.nd rfl (aca rfl) (aa 2))) aH)
    (ar (aI (PW.pt (bZ (kN (aZ cV (by rfl) T.cJ cD (ae (aa 3) ag)) af) (bZ (bR (bQ (bC (pq T) (hr.mono (by lia)) rfl T.lX.m T.lX.F.kp T.lX.b .nil bO (ae (bb bc (aa 3) af (λ_ _=>rfl)) ag)))) (bZ (lN (bb bc (aa 3) af (λ_ _=>rfl)) af) (dJ (kM (bb bc (aa 3) af (λ_ _=>rfl)) (aZ cV (by rfl) T.cJ cD (ae (aa 5) ag)))))))) (aw (aA cg)) aH)
    (aw (aA (bC (AZ T) (hr.mono (by lia)) rfl T.i5.m T.i5.F.kp T.i5.b .nil bO (ae (bb bc (aa 5) (bb bc (aa 3) af (λ_ _=>rfl)) (λ_ _=>rfl)) ag))))))))))),?_⟩
   obtain⟨ys,zs,hW,hs,hS,hg,hG,gB,hn,fA,hle⟩:=id hK;have Bb:∃ (k:YC) (u:V) (us:List V),v = .ref k/\H k=some (.tup (u::us)):=by
    rcases hR with ⟨k,j,rfl,hk,hj⟩|⟨k,j,rfl,hk,hj⟩|⟨t,pp,fs,hp,hh,e1,e2,hv⟩
    .exact⟨k,_,_,rfl,hk⟩
    .exact⟨k,_,_,rfl,hk⟩
    .cases t with
     | nil=>exact hv.elim
     | full=>obtain⟨r,rfl,h⟩:=hp;exact⟨r,_,_,rfl,h⟩
     | cls c a b=>obtain⟨r,_,_,_,_,rfl,h,_⟩:=hp;exact⟨r,_,_,rfl,h⟩
   obtain⟨k,u0,us,rfl,hku⟩:=Bb;refine aC (λσ H2=>σ=[some wv,some (.ref s),some (.ref gl),some (.ref k),some (.ref z),none]/\H2=H) (λN hN=>?_) ?_
   .rfl';refine uf hku ?_;rfl';refine⟨_,n0 (ah.of hku),?_⟩;refine aN (λh0=>absurd h0 (by rw[Zn];lia)) λ_=>hN _ _ ⟨rfl,rfl⟩
   rintro _ yR σ H2 ⟨rfl,rfl⟩;subst yR;rcases hR with ⟨k2,j,e1,hk,hj⟩|⟨k2,j,e1,hk,hj⟩|⟨tt,pp,fs,hp,hh,e1,e2,hv⟩
   .cases e1;refine aC (λσ H3=>σ=[some wv,some (.ref s),some (.ref gl),some (.ref k),some (.ref z),none]/\H3=H2) (λN hN=>?_) ?_
    .rfl';refine ak (ah.of hk) (v:=.str "step") rfl ?_;rfl'
     first|exact hN _ _ ⟨rfl,rfl⟩|exact aN (λh=>absurd h (by decide)) λ_=>hN _ _ ⟨rfl,rfl⟩
    rintro _ yR σ H3 ⟨rfl,rfl⟩;subst yR;refine aC (λσ H4=>σ=[some wv,some (.ref s),some (.ref gl),some (.ref k),some (.ref z),none]/\H4=H3) (λN hN=>?_) ?_
    .rfl';refine ak (ah.of hk) (v:=.str "step") rfl ?_;rfl'
     first|exact hN _ _ ⟨rfl,rfl⟩|exact aN (λh=>absurd h (by decide)) λ_=>hN _ _ ⟨rfl,rfl⟩
    rintro _ yR σ H4 ⟨rfl,rfl⟩;subst yR;refine aC (λσ H5=>∃ l0,σ=[some wv,some (.ref s),some (.ref gl),some (.ref k),some (.ref z),some (.ref l0)]/\aj H4 H5) (λN hN=>?_) ?_
    .rfl';exact⟨by decide,λp hp=>hN _ _ ⟨p,rfl,au hp⟩⟩
    rintro _ yR σ H5 ⟨l0,rfl,s5⟩;subst yR;refine aC (λσ H6=>σ=[some wv,some (.ref s),some (.ref gl),some (.ref k),some (.ref z),some (.ref s)]/\H6=H5) (λN hN=>?_) ?_
    .rfl';refine ak (ah.of (s5 _ _ hk)) (v:=.str "step") rfl ?_;rfl'
     first|exact hN _ _ ⟨rfl,rfl⟩|exact aN (λh=>absurd h (by decide)) λ_=>hN _ _ ⟨rfl,rfl⟩
    rintro _ yR σ H6 ⟨rfl,rfl⟩;subst yR;refine aC (λσ H7=>σ=[some wv,some (.ref s),some (.ref gl),some (.ref k),some (.ref z),some (.ref s)]/\H7=H6) (λN hN=>?_) ?_
    .rfl';refine ak (ah.of (s5 _ _ hk)) (v:=.str "step") rfl ?_;rfl'
     first|exact hN _ _ ⟨rfl,rfl⟩|exact aN (λh=>absurd h (by decide)) λ_=>hN _ _ ⟨rfl,rfl⟩
    rintro _ yR σ H7 ⟨rfl,rfl⟩;subst yR;rw[YG] at hj;obtain⟨sj,hsj,hcj⟩:=Y6.mp hj;obtain⟨vj,hvj,pj,rfl,hpj⟩:=hS.at hsj;have jl:=(Yx.mp hvj).1;refine aC (λσ H8=>σ=[some wv,some (.ref s),some (.ref gl),some (.ref k),some (.ref z),some (.ref s)]/\H8=H7) (λN hN=>?_) ?_
    .rfl';refine⟨_,n0 (ah.of (s5 _ _ hk)),?_⟩;rfl';refine ak (ah.of (s5 _ _ hk)) (v:=.int j) rfl ⟨_,rfl,.inr ⟨_,rfl⟩,?_⟩;simp only[isWhole];rfl';refine ak (ah.of (s5 _ _ hk)) (v:=.int j) rfl ?_;rfl';refine aN (λh0=>absurd h0 (by lia)) λ_=>ak (ah.of (s5 _ _ hk)) (v:=.int j) rfl ⟨_,dY (ai.of (s5 _ _ hs)),?_⟩;rfl';exact aN (λh0=>absurd h0 (by lia)) λ_=>hN _ _ ⟨rfl,rfl⟩
    rintro _ yR σ H8 ⟨rfl,rfl⟩;subst yR;rfl';refine ak (ah.of (s5 _ _ hk)) (v:=.int j) rfl (bz (ai.of (s5 _ _ hs)) (cZ hvj) ⟨pj,sj.1,sj.2,rfl,ah.of (s5 _ _ hpj),?_⟩);rw[Je hcj];exact q _ s5
   .cases e1;refine aC (λσ H3=>σ=[some wv,some (.ref s),some (.ref gl),some (.ref k),some (.ref z),none]/\H3=H2) (λN hN=>?_) ?_
    .rfl';refine ak (ah.of hk) (v:=.str "at") rfl ?_;rfl'
     first|exact hN _ _ ⟨rfl,rfl⟩|exact aN (λh=>absurd h (by decide)) λ_=>hN _ _ ⟨rfl,rfl⟩
    rintro _ yR σ H3 ⟨rfl,rfl⟩;subst yR;refine aC (λσ H4=>σ=[some wv,some (.ref s),some (.ref gl),some (.ref k),some (.ref z),none]/\H4=H3) (λN hN=>?_) ?_
    .rfl';refine ak (ah.of hk) (v:=.str "at") rfl ?_;rfl'
     first|exact hN _ _ ⟨rfl,rfl⟩|exact aN (λh=>absurd h (by decide)) λ_=>hN _ _ ⟨rfl,rfl⟩
    rintro _ yR σ H4 ⟨rfl,rfl⟩;subst yR;refine aC (λσ H5=>∃ l0,σ=[some wv,some (.ref s),some (.ref gl),some (.ref k),some (.ref z),some (.ref l0)]/\aj H4 H5) (λN hN=>?_) ?_
    .rfl';exact⟨by decide,λp hp=>hN _ _ ⟨p,rfl,au hp⟩⟩
    rintro _ yR σ H5 ⟨l0,rfl,s5⟩;subst yR;refine aC (λσ H6=>σ=[some wv,some (.ref s),some (.ref gl),some (.ref k),some (.ref z),some (.ref l0)]/\H6=H5) (λN hN=>?_) ?_
    .rfl';refine ak (ah.of (s5 _ _ hk)) (v:=.str "at") rfl ?_;rfl'
     first|exact hN _ _ ⟨rfl,rfl⟩|exact aN (λh=>absurd h (by decide)) λ_=>hN _ _ ⟨rfl,rfl⟩
    rintro _ yR σ H6 ⟨rfl,rfl⟩;subst yR;refine aC (λσ H7=>σ=[some wv,some (.ref s),some (.ref gl),some (.ref k),some (.ref z),some (.ref gl)]/\H7=H6) (λN hN=>?_) ?_
    .rfl';refine ak (ah.of (s5 _ _ hk)) (v:=.str "at") rfl ?_;rfl'
     first|exact hN _ _ ⟨rfl,rfl⟩|exact aN (λh=>absurd h (by decide)) λ_=>hN _ _ ⟨rfl,rfl⟩
    rintro _ yR σ H7 ⟨rfl,rfl⟩;subst yR;rw[YG] at hj;obtain⟨sj,hsj,hcj⟩:=Y6.mp hj;obtain⟨vj,hvj,pj,rfl,hpj⟩:=hG.at hsj;have jl:=(Yx.mp hvj).1;refine aC (λσ H8=>σ=[some wv,some (.ref s),some (.ref gl),some (.ref k),some (.ref z),some (.ref gl)]/\H8=H7) (λN hN=>?_) ?_
    .rfl';refine⟨_,n0 (ah.of (s5 _ _ hk)),?_⟩;rfl';refine ak (ah.of (s5 _ _ hk)) (v:=.int j) rfl ⟨_,rfl,.inr ⟨_,rfl⟩,?_⟩;simp only[isWhole];rfl';refine ak (ah.of (s5 _ _ hk)) (v:=.int j) rfl ?_;rfl';refine aN (λh0=>absurd h0 (by lia)) λ_=>ak (ah.of (s5 _ _ hk)) (v:=.int j) rfl ⟨_,dY (ai.of (s5 _ _ hg)),?_⟩;rfl';exact aN (λh0=>absurd h0 (by lia)) λ_=>hN _ _ ⟨rfl,rfl⟩
    rintro _ yR σ H8 ⟨rfl,rfl⟩;subst yR;rfl';refine ak (ah.of (s5 _ _ hk)) (v:=.int j) rfl (bz (ai.of (s5 _ _ hg)) (cZ hvj) ⟨pj,sj.1,sj.2,rfl,ah.of (s5 _ _ hpj),?_⟩);rw[Je hcj];exact q _ s5
   .cases tt with
    | nil=>exact hv.elim
    | full =>
     obtain⟨r,er,cf⟩:=hp;cases er;refine aC (λ_ _=>False) (λN hN=>?_) (λ_ _ _ _ h=>h.elim);rfl';refine ak (ah.of cf) (v:=.str "full") rfl ?_;rfl';refine⟨_,n0 (ah.of cf),aN (λ_=>?_) λh0=>absurd rfl h0⟩;obtain⟨r9,rfl,VF,_⟩:=hW;refine⟨_,dY (ai.of hz),ak (ah.of VF) (v:=.int m) rfl ?_⟩;rfl';rw[Yq,decide_eq_true (show m<((as.length:Nat):Int) from hv)];exact q _ (aj.refl _)
    | cls c a b =>
     obtain⟨r,p,p2,x,y,er,hk,ip,fM,hx,hy⟩:=id hp;cases er;refine aC (λσ H3=>σ=[some wv,some (.ref s),some (.ref gl),some (.ref k),some (.ref z),none]/\H3=H2) (λN hN=>?_) ?_
     .rfl';refine ak (ah.of hk) (v:=.str "clash") rfl ?_;rfl'
      first|exact hN _ _ ⟨rfl,rfl⟩|exact aN (λh=>absurd h (by decide)) λ_=>hN _ _ ⟨rfl,rfl⟩
     rintro _ yR σ H3 ⟨rfl,rfl⟩;subst yR;have HA:di a<N:=by have h2:(if di a<=di b then di b else di a)+1<N+1:=hh;split at h2<;>lia
     have HB:di b<N:=by have h2:(if di a<=di b then di b else di a)+1<N+1:=hh;split at h2<;>lia
     refine aC (λ_ _=>False) (λN9 hN=>?_) (λ_ _ _ _ h=>h.elim);rfl';refine ak (ah.of hk) (v:=.str "clash") rfl ?_;rfl';exact⟨_,n0 (ah.of hk),aN (λ_=>⟨wv,_,w,s,gl,z,e,t,u,d,m,sl,gs,fs,pp,tb,as,c,a,b,rfl,by lia,hK,hz,by lia,hp,HA,HB,e1,e2,hv,q⟩) λh0=>absurd rfl h0⟩
theorem VG(T:Tx K mg):Ok P w base 33 T.gC (vW K 10):=VE T 10
theorem VH(u d:Int)(ps:List Pa)(n:Nat):((YZ n).map (λ(k:Nat)=>aY (some (-d),some u) (sel ps "step" (k:Int)))).map fZ=dI u d ps n:=by unfold dI;rw[ZH];exact aaA λk _=>rfl
theorem VI(ps:List Pa)(n:Nat):((YZ n).map (λ(k:Nat)=>aY (none,none) (sel ps "at" (k:Int)))).map fZ=ed ps n:=by unfold ed;rw[ZH];exact aaA λk _=>rfl
inductive VJ(K:Yp)(vs:List V)(H:Hp)(Q:VK)(aP:XK):Prop
 | mk(wv v:V)(w cl:YC)(e t u d m:Int)(tb:Tb)(xs:List V)(ps:List Pa)(_:vs=[wv,.ref cl,v])(_:fB H wv w e t u d m tb)(_:1<=t)(_:t<=12)(_:bV e t tb)(_:ai K H cl xs)(_:dF H xs ps)(_:ps.length<=900)(_:gH H v (dI u d ps (t-1).toNat) (ed ps t.toNat) tb m [] 10)(_:∀ H',aj H H'->Q (.bl true) H')
theorem Jj(T:Tx K mg):Ok P w base 34 T.sM (VJ K):=by
 refine bf rG ?_;rintro _ _ _ s H _ Q _ hr ⟨wv,v,w,cl,e,t,u,d,m,tb,xs,ps,rfl,hW,t1,t2,ay,hX,hP,hn,hR,q⟩;refine⟨_,(ar (aJ 3 rG.nd (aS (ae (aG da af (aq (aa 0) af)) (ae (aq (aa 0) af) ag))))
  (ar (qA (i:=4) (bP.mk (fr:=[3,1]) (ys:=["_law_own","_law_claim"]) rfl (by decide +kernel) rfl (by decide +kernel) rfl rfl (.cons rfl (.cons rfl .nil)) (.cons rfl rfl rfl rfl (.cons rfl rfl rfl rfl .nil)) (by decide) rfl) rfl rG.nd rfl rfl (fH rfl T.cQ (ae (aG da (aq (aa 0) af) af) ag)) (λC s2 H2 ex pn=>⟨dO,(aF (Ir T) hr (ae (aa 1) (ae (aa 2) (ae ba (ae (aa 0) ag)))))⟩))
  (ar (qA (i:=5) (bP.mk (fr:=[1]) (ys:=["_law_claim"]) rfl (by decide +kernel) rfl (by decide +kernel) rfl rfl (.cons rfl .nil) (.cons rfl rfl rfl rfl .nil) (by decide) rfl) rfl rG.nd rfl rfl (fH rfl T.cQ (ae (aq (aa 0) af) ag)) (λC s2 H2 ex pn=>⟨dO,(aF (Ir T) hr (ae (aS (ae bH (ae bH ag))) (ae (aa 1) (ae ba (ae (aa 0) ag)))))⟩))
  (aw (aA (aF (VG T) hr (ae (aa 0) (ae (aa 4) (ae (aa 5) (ae (aa 2) (ae (cX ag) ag))))))))))),?_⟩
 obtain⟨r,rfl,bU,hT⟩:=id hW;refine aC (λσ H1=>∃ p,σ=[some (.ref r),some (.ref cl),some v,some (.ref p),none,none]/\aj H H1/\H1 p=some (.tup [.int (-d),.int u])) (λN hN=>?_) ?_
 .rfl';refine ak (ah.of bU) (v:=.int d) rfl ?_;rfl';refine ak (ah.of bU) (v:=.int u) rfl ⟨a7,λp hp=>hN _ _ ⟨p,rfl,au hp,?_⟩⟩;rw[ax,Int.zero_sub]
 rintro _ yR σ H1 ⟨p,rfl,s1,hp⟩;subst yR;refine aC (λσ H2=>∃ s ys,σ=[some (.ref r),some (.ref cl),some v,some (.ref p),some (.ref s),none]/\aj H H2/\H2 s=some (.lst ys)/\az (λv x=>aK H2 v x.1 x.2) ys ((YZ (t-1).toNat).map (λ(k:Nat)=>aY (some (-d),some u) (sel ps "step" (k:Int))))) (λN hN=>?_) ?_
 .rfl';refine ak (ah.of (s1 _ _ bU)) (v:=.int t) rfl ?_;rfl';refine⟨by lia,by lia,cF iL (by rw[Yq,YE];exact Yw (by lia:_<=12) (by decide)) (gq (R:=λ_ x (k:Nat)=>x=V.int ((0:Int)+k)) (R':=λH v (x:S2)=>aK H v x.1 x.2) (f:=λ(k:Nat)=>aY (some (-d),some u) (sel ps "step" (k:Int))) (λ_ _ _ _ _ h=>h) (λ_ _ _ _ s' h=>h.same s') (az.fF _) (bs:=[]) trivial (λ_ _=>trivial) (λx k _ H2 s2 r Q h=>?_) (λx k _ H2 s2 r Q h=>?_) λH2 zs s2 hz=>?_)⟩
  .rfl';exact h
  .subst r;rfl';refine⟨p,cl,some (-d),some u,xs,ps,"step",_,rfl,ah.of (s2 _ _ hp),(s1.trans s2).seq hX,hP.same (s1.trans s2),by lia,λv H3 s3 hv=>h _ _ s3 ?_⟩;rw[acf] at hv;exact hv
  .intro l hl;rw[Y0] at hz;exact hN _ _ ⟨l,zs,rfl,s1.trans (s2.trans (au hl)),ax,hz.imp λ_ _ r=>r.same (au hl)⟩
 rintro _ yR σ H2 ⟨s,ys,rfl,s2,hs,hS⟩;subst yR;refine aC (λσ H3=>∃ gl zs,σ=[some (.ref r),some (.ref cl),some v,some (.ref p),some (.ref s),some (.ref gl)]/\aj H2 H3/\H3 gl=some (.lst zs)/\az (λv x=>aK H3 v x.1 x.2) zs ((YZ t.toNat).map (λ(k:Nat)=>aY (none,none) (sel ps "at" (k:Int))))) (λN hN=>?_) ?_
 .rfl';refine ak (ah.of (s2 _ _ bU)) (v:=.int t) rfl ?_;rfl';refine⟨by lia,by lia,cF iL (by rw[Yq,YE];exact Yw (by lia:_<=12) (by decide)) (gq (R:=λ_ x (k:Nat)=>x=V.int ((0:Int)+k)) (R':=λH v (x:S2)=>aK H v x.1 x.2) (f:=λ(k:Nat)=>aY (none,none) (sel ps "at" (k:Int))) (λ_ _ _ _ _ h=>h) (λ_ _ _ _ s' h=>h.same s') (az.fF _) (bs:=[]) trivial (λ_ _=>trivial) (λx k _ H4 s4 r Q h=>?_) (λx k _ H4 s4 r Q h=>?_) λH4 zs s4 hz=>?_)⟩
  .rfl';exact h
  .subst r;rfl';refine⟨a7,λp2 fM=>?_⟩;have u2:=au (o:=.tup [.non,.non]) fM;have U:=s2.trans (s4.trans u2);refine⟨p2,cl,none,none,xs,ps,"at",_,rfl,ah.of ax,U.seq hX,hP.same U,by lia,λv H3 s3 hv=>h _ _ (u2.trans s3) ?_⟩;rw[acf] at hv;exact hv
  .intro l hl;rw[Y0] at hz;exact hN _ _ ⟨l,zs,rfl,s4.trans (au hl),ax,hz.imp λ_ _ r=>r.same (au hl)⟩
 rintro _ yR σ H3 ⟨gl,zs,rfl,s3,hg,hG⟩;subst yR;rfl';refine⟨by decide,λp9 A4=>?_⟩;have u9:=au (o:=.lst []) A4;have U:=s2.trans (s3.trans u9);refine⟨.ref r,v,w,s,gl,p9,e,t,u,d,m,_,_,tb,[],rfl,by decide,by decide,⟨ys,zs,hW.same U,(s3.trans u9) _ _ hs,hS.imp λ_ _ x=>x.same (s3.trans u9),u9 _ _ hg,hG.imp λ_ _ x=>x.same u9,?_,?_,ay.1,λx hx=>?_⟩,ax,by decide,?_,λH' s'=>q _ (U.trans s')⟩
 .rw[Yq,Yq,YE,YE];lia
 .rw[Yq,YE];lia
 .rw[Yq,YE];obtain⟨⟨b1,b2⟩,b3,b4⟩:=ay.2 x hx;lia
 .rw[VH,VI];exact hR.same U
def gb(i j:Int):Prop:=0<=i/\i<=j/\j<=11
inductive VL(K:Yp)(N:YC)(vs:List V)(H:Hp)(Q:VK)(E:XK):Prop
 | mk(x C dx:YC)(i j:Int)(_:vs=[.ref x,.int i,.int j])(_:H x=some (.ins C dx []))(_:dj K C)(_:cT K C "first")(_:cT K C "last")(_:(¬ gb i j->E (.ref N) none H))(_:(gb i j->Q .non (upd H x (.ins C dx [("first",.int i),("last",.int j)]))))
theorem VM(T:Tx K mg):Om P w mg base 1 T.kQ (VL K T.cK):=by
 refine m5 Hc ?_;rintro _ _ _ _ H _ _ E _ ⟨x,C,dx,i,j,rfl,hx,hc,n1,n2,q0,q⟩;refine⟨_,(ar (aI (bR (QY eF eF eF af (aa 1) (aa 2) (yj T.SM rfl))) (aw (iE iF rfl T.vD T.nr rfl (ae ba ag))) aH)
  (ar (jR (aa 0) (aa 1) rfl)
  (aw (jR (aa 0) (aa 2) rfl)))),?_⟩
 rfl';have no:∀ D σ,¬ gb i j->∀ y,xo T.cK E (t6 (tC (.str y)) qg) D σ H:=λD σ z y=>⟨by show 1<=YR;decide,q0 z⟩
 refine aN (λh1=>aN (λh2=>aN (λh3=>no _ _ (λz=>h3 z.2.2) _) λh3=>?_) λh2=>no _ _ (λz=>h2 z.2.1) _) λh1=>no _ _ (λz=>h1 z.1) _;refine⟨_,_,_,hx,hc,n1,(by show 0<1000;decide),_,_,_,ax,hc,n2,(by show 1<1000;decide),?_⟩;rw[jd];exact q ⟨h1,h2,by lia⟩
inductive VN(C N:YC)(vs:List V)(H:Hp)(Q:VK)(E:XK):Prop
 | mk(x dx:YC)(i j l h:Int)(_:vs=[.ref x,.int i,.int j,.int l,.int h])(_:H x=some (.ins C dx []))(_:(¬ (gb i j/\l<h)->∀ H',SameBut x H H'->E (.ref N) none H'))(_:(gb i j/\l<h->Q .non (upd H x (.ins C dx [("first",.int i),("last",.int j),("low",.int l),("high",.int h)]))))
theorem Bw(T:Tx K mg):Om P w mg base 2 T.kR (VN T.bM T.cK):=by
 refine m5 He ?_;rintro _ _ _ _ _ _ _ _ hr ⟨x,dx,i,j,l,h,rfl,hx,q0,q⟩;refine⟨_,(ar (dS (Ol rfl T.Sv T.SG (VM T) (hr.mono (by decide)) T.kQ.b .nil cE (ae (aa 0) (ae (aa 1) (ae (aa 2) ag)))))
  (ar (aI (kM (aa 3) (aa 4)) (aw (iE iF rfl T.vD T.nr rfl (ae ba ag))) aH)
  (ar (jR (aa 0) (aa 3) rfl)
  (aw (jR (aa 0) (aa 4) rfl))))),?_⟩
 rfl';refine⟨x,T.bM,dx,i,j,rfl,hx,T.de,T.ph,T.l6,λz=>q0 (λy=>z y.1) _ λ_ _ _ e=>e,λhk=>?_⟩;rfl';refine aN (λh1=>⟨by decide,q0 (λy=>by lia) _ λb o hb e=>by rw[aD hb];exact e⟩) λh1=>?_;refine⟨_,_,_,ax,T.de,T.sS,(by show 2<1000;decide),_,_,_,ax,T.de,T.sT,(by show 3<1000;decide),?_⟩;rw[jd,jd];exact q ⟨hk,by lia⟩
inductive VO(K:Yp)(vs:List V)(H:Hp)(Q:VK)(aP:XK):Prop
 | mk(x C dx:YC)(fs:List (Str × V))(j:Int)(_:vs=[.ref x])(_:H x=some (.ins C dx fs))(_:dj K C)(_:cT K C "last")(_:fs.lookup ("last" : Str)=some (.int j))(_:Q (.int j) H)
theorem VP(T:Tx K mg):Om P w mg base 1 T.jS (VO K):=by refine o7 Hd ?_;rintro _ _ _ _ _ _ _ _ _ ⟨x,C,dx,fs,j,rfl,hx,hc,n1,hl,q⟩;refine⟨_,(aw (aA (ck rfl (aa 0) rfl))),?_⟩;rfl';exact⟨_,_,_,hx,hc,n1,_,hl,q⟩
inductive VQ(K:Yp)(vs:List V)(H:Hp)(Q:VK)(aP:XK):Prop
 | mk(i j:Int)(p:YC)(s:S2)(_:vs=[.int i,.int j,.ref p])(_:H p=some (.tup [ev s.1,ev s.2]))(_:(0<=i/\i<=12))(_:(-1<=j/\j<=11))(_:∀ l xs H',aj H H'->H l=none->H' l=some (.lst xs)->dF H' xs (fh i j s)->Q (.ref l) H')
theorem Bx(T:Tx K mg):Ok P w base 1 T.rQ (VQ K):=by
 refine bf Hb ?_;rintro _ _ _ s _ _ Q _ _ ⟨i,j,p,s,rfl,hp,hi,hj,q⟩;refine⟨_,(aw (aA (c7 (bP.mk (fr:=[2]) (ys:=["one"]) rfl (by decide +kernel) rfl (by decide +kernel) rfl rfl (.cons rfl .nil) (.cons rfl rfl rfl rfl .nil) (by decide) rfl) rfl (j9 rfl T.cQ (ae (aa 0) (ae (aG bp (aa 1) af) ag))) (λC s2 H2 ex pn=>⟨dO,(aS (ae ba (ae (aa 0) (ae (aa 1) ag))))⟩)))),?_⟩;rfl';refine⟨by lia,by lia,by lia,by lia,cF iL (by rw[Yq,YE];exact Yw (by lia:_<=20) (by decide)) (gq (R:=λ_ x (k:Nat)=>x=V.int (i+k)) (R':=iQ) (f:=λ(k:Nat)=>(("at",i+(k:Int),s):Pa)) (λ_ _ _ _ _ h=>h) (λ_ _ _ _ s' h=>h.same s') (az.fF _) (bs:=[]) trivial (λ_ _=>trivial) (λx k _ H2 s2 r Q h=>?_) (λx k _ H2 s2 r Q h=>?_) λH2 zs s2 hz=>?_)⟩
 .rfl';exact h
 .subst r;rfl';exact⟨by decide,λt ht=>h _ _ (au ht) ⟨t,p,rfl,ax,(au ht) _ _ (s2 _ _ hp)⟩⟩
 .intro l hl;refine q l zs _ (s2.trans (au hl)) (s2.free hl) ax ?_;rw[Y0] at hz;exact hz.imp λ_ _ r=>r.same (au hl)
noncomputable def vX(i j l h:Int)(n:Nat):List (List Pa):=(YZ n).flatMap λk=>(fh (i+(k:Nat)+1) j (some h,none)).map λp=>[(("at",i+(k:Nat),none,some l):Pa),p]
theorem VR(i j l h:Int)(n:Nat):vX i j l h (n+1)=vX i j l h n++(fh (i+(n:Nat)+1) j (some h,none)).map λp=>[(("at",i+(n:Nat),none,some l):Pa),p]:=by unfold vX;rw[aeb,aez];simp
inductive VS(H:Hp)(x r:YC)(i j l h:Int)(n:Nat)(σ:St)(H1:Hp):Prop
 | mk(ys:List V)(e1 e2:Option V)(_:σ=[some (.ref x),some (.ref r),e1,e2])(_:aj H H1)(_:H1 r=some (.lst ys))(_:az (jL H r H1) ys (vX i j l h n))(_:ys.length<=12 * n)
inductive VT(C:YC)(vs:List V)(H:Hp)(Q:VK)(aP:XK):Prop
 | mk(x dx:YC)(i j l h:Int)(_:vs=[.ref x])(_:H x=some (.ins C dx [("first",.int i),("last",.int j),("low",.int l),("high",.int h)]))(_:gb i j)(_:∀ r ys H',aj H H'->H r=none->H' r=some (.lst ys)->az (g9 H H') ys (qY i j l h)->Q (.ref r) H')
theorem VU(T:Tx K mg):Om P w mg base 2 T.lQ (VT T.bM):=by
 refine o7 rq ?_;rintro _ _ _ s H _ Q _ hr ⟨x,dx,i,j,l,h,rfl,hx,hk,q⟩;refine⟨_,(ar (aJ 1 rq.nd (cX ag))
  (ar (cu Zd rfl (j9 rfl T.cQ (ae (ck rfl (aa 0) rfl) (ae (ck rfl (aa 0) rfl) ag))) (bX 2 rq.nd) (ar (aJ 3 rq.nd (cX (ae (aS (ae ba (ae (aa 2) (ae (aS (ae bH (ae (ck rfl (aa 0) rfl) ag))) ag)))) ag)))
    (aw (dS (ju Zk adn ado C5 (aa 1) (ae (c7 (bP.mk (fr:=[3]) (ys:=["lows"]) rfl (by decide +kernel) rfl (by decide +kernel) rfl rfl (.cons rfl .nil) (.cons rfl rfl rfl rfl .nil) (by decide) rfl) rfl (cU (aF (Bx T) hr (ae (aG bp (aa 2) af) (ae (ck rfl (aa 0) rfl) (ae (aS (ae (ck rfl (aa 0) rfl) (ae bH ag))) ag))))) (λC s2 H2 ex pn=>⟨dO,(aG lg (aa 1) (cX (ae (aa 0) ag)))⟩)) ag))))))
  (aw (aA (aa 1))))),?_⟩
 obtain⟨k1,k2,k3⟩:=id hk;rfl';refine⟨by decide,λr bU=>?_⟩;have s1:=au (o:=.lst []) bU;have e1:upd H r (.lst []) r=some (.lst []):=ax;generalize upd H r (.lst [])=H1 at s1 e1 ⊢;refine⟨_,_,_,s1 _ _ hx,T.de,T.ph,_,rfl,_,_,_,s1 _ _ hx,T.de,T.l6,_,rfl,_,rfl,_,rfl,by lia,by lia,by lia,by lia,?_⟩;refine iD (VS H x r i j l h) ⟨[],_,_,rfl,s1,e1,trivial,YS _⟩ ?_ ?_
 .rintro k σ H2 hJ ⟨ys,_,_,rfl,s2,gG,hy,hlen⟩;rfl';refine⟨_,_,_,s2 _ _ hx,T.de,T.sS,_,rfl,a7,λa ha=>⟨by decide,λb hb=>⟨by decide,λlo VV=>?_⟩⟩⟩;have sa:=au (o:=.tup [.non,.int l]) ha;have sb:=au (o:=.tup [.str "at",.int (i+(k:Int)),.ref a]) hb;have sl:=au (o:=.lst [.ref b]) VV;have S3:=sa.trans (sb.trans sl);have eb:iQ (upd (upd (upd H2 a (.tup [.non,.int l])) b (.tup [.str "at",.int (i+(k:Int)),.ref a])) lo (.lst [.ref b])) (.ref b) (("at",i+(k:Int),none,some l):Pa):=⟨b,a,rfl,sl _ _ ax,(sb.trans sl) _ _ ax⟩
  have Jk:(upd (upd (upd H2 a (.tup [.non,.int l])) b (.tup [.str "at",.int (i+(k:Int)),.ref a])) lo (.lst [.ref b])) lo=some (.lst [.ref b]):=ax;generalize upd (upd (upd H2 a (.tup [.non,.int l])) b (.tup [.str "at",.int (i+(k:Int)),.ref a])) lo (.lst [.ref b])=H3 at S3 eb Jk ⊢;rfl';have eT:=S3 _ _ gG;have nD:=S3 _ _ (s2 _ _ hx);refine⟨.inl ⟨rfl,_,ai.of eT⟩,_,_,_,nD,T.de,T.l6,_,rfl,_,_,_,nD,T.de,T.sT,_,rfl,a7,λc hc=>?_⟩;have sc:=au (o:=.tup [.int h,.non]) hc;refine⟨_,_,c,(some h,none),rfl,ax,by lia,by lia,λg gs H4 s4 _ hg hG=>?_⟩;have S4:=sc.trans s4;have gB:=hG.len;rw[oU] at gB;rfl';refine⟨⟨_,ai.of hg⟩,cF iK (Yw (by lia:gs.length<=12) (by decide)) (gq (R:=iQ) (R':=jL H r) (f:=λp=>[(("at",i+(k:Int),none,some l):Pa),p]) (λ_ _ _ _ s' h=>h.same s') (λ_ _ _ _ s' h=>h.same s') hG (bs:=[]) trivial (λH' s'=>ai.of (s' _ _ hg)) (λx k _ H5 s5 r Q h=>?_) (λy p _ H5 s5 ry Q h=>?_) λH5 zs s5 hz=>?_)⟩
  .rfl';exact h
  .have S5:=S4.trans s5;rfl';refine⟨by decide,λd hd=>?_⟩;have sd:=au (o:=.lst [y]) hd;refine⟨_,sd _ _ (S5 _ _ Jk),_,ax,(show 2<=YR by decide),λm hm=>?_⟩;have sm:=au (o:=.lst ([.ref b]++[y])) hm;have mr:m≠r:=λz=>by rw[z,sd _ _ (S5 _ _ eT)] at hm;cases hm
   exact h _ _ (sd.trans sm) ⟨m,[.ref b,y],rfl,mr,(s2.trans (S3.trans (S5.trans sd))).free hm,ax,(eb.same (S5.trans (sd.trans sm))),ry.same (sd.trans sm),trivial⟩
  .intro d hd;rw[Y0] at hz;have u:=(S4.trans s5).trans (au (o:=.lst zs) hd);have VW:=hz.len;rw[Yq,oU] at VW;refine⟨r,d,_,_,rfl,rfl,u _ _ eT,ax,Yw (by lia:ys.length+zs.length<=300) (by decide),ys++zs,_,_,rfl,jw bU (s2.trans (S3.trans u)),ax,?_,by rw[YO];lia⟩;rw[VR];have a1:=(hy.imp λ_ _ z=>(z.same (S3.trans u)).put (o:=.lst (ys++zs)) (u _ _ eT))
   have a2:=(hz.imp λ_ _ z=>(z.same (au (o:=.lst zs) hd)).put (o:=.lst (ys++zs)) (u _ _ eT))
   exact a1.app a2
 .rintro σ H2 ⟨ys,_,_,rfl,s2,gG,hy,hlen⟩;rfl';exact q r ys H2 s2 bU gG (hy.imp λ_ _ z=>z.Q3)
noncomputable def cL(i j l h:Int):List (List Pa):=(YZ (j+1-i).toNat).map λk=>fh i (i+(k:Nat)-1) (some (l+1),none)++fh (i+(k:Nat)+1) j (none,some (h-1))
inductive VX(C:YC)(vs:List V)(H:Hp)(Q:VK)(aP:XK):Prop
 | mk(x dx:YC)(i j l h:Int)(_:vs=[.ref x])(_:H x=some (.ins C dx [("first",.int i),("last",.int j),("low",.int l),("high",.int h)]))(_:gb i j)(_:∀ r ys H',aj H H'->H r=none->H' r=some (.lst ys)->az (g9 H H') ys (cL i j l h)->Q (.ref r) H')
theorem By(T:Tx K mg):Om P w mg base 2 T.jT (VX T.bM):=by
 refine o7 Hf ?_;rintro _ _ _ s H _ Q _ hr ⟨x,dx,i,j,l,h,rfl,hx,hk,q⟩;refine⟨_,(aw (aA (c7 (bP.mk (fr:=[0]) (ys:=["self"]) rfl (by decide +kernel) rfl (by decide +kernel) rfl rfl (.cons rfl .nil) (.cons rfl rfl rfl rfl .nil) (by decide) rfl) rfl (j9 rfl T.cQ (ae (ck rfl (aa 0) rfl) (ae (aG bp (ck rfl (aa 0) rfl) af) ag))) (λC s2 H2 ex pn=>⟨dO,(aG lg (aF (Bx T) hr (ae (ck (K:=K) rfl (aa 1) rfl) (ae (aG da (aa 0) af) (ae (aS (ae (aG bp (ck (K:=K) rfl (aa 1) rfl) af) (ae bH ag))) ag)))) (aF (Bx T) hr (ae (aG bp (aa 0) af) (ae (ck (K:=K) rfl (aa 1) rfl) (ae (aS (ae bH (ae (aG da (ck (K:=K) rfl (aa 1) rfl) af) ag))) ag)))))⟩)))),?_⟩;obtain⟨k1,k2,k3⟩:=id hk;rfl';refine⟨_,_,_,hx,T.de,T.ph,_,rfl,_,_,_,hx,T.de,T.l6,_,rfl,_,rfl,by lia,by lia,by lia,by lia,?_⟩;refine cF iL (by rw[Yq,YE];exact Yw (by lia:_<=20) (by decide)) (gq (R:=λ_ x (k:Nat)=>x=V.int (i+k)) (R':=g9 H) (f:=λ(k:Nat)=>fh i (i+(k:Int)-1) (some (l+1),none)++fh (i+(k:Int)+1) j (none,some (h-1))) (λ_ _ _ _ _ h=>h) (λ_ _ _ _ s' h=>h.same s') (az.fF _) (bs:=[]) trivial (λ_ _=>trivial) (λx k _ H2 s2 r Q h=>?_) (λy k Jl H2 s2 r Q hq=>?_) λH2 zs s2 hz=>?_)
 .rfl';exact h
 .subst r;have Jl:=Zp.mp Jl;rfl';have qq:=s2 _ _ hx;refine⟨_,_,_,qq,T.de,T.ph,_,rfl,_,_,_,qq,T.de,T.sS,_,rfl,a7,λa ha=>?_⟩;have sa:=au (o:=.tup [.int (l+1),.non]) ha;refine⟨_,_,a,(some (l+1),none),rfl,ax,by lia,by lia,λg gs H3 s3 _ hg hG=>?_⟩;have nD:=(sa.trans s3) _ _ qq;rfl';refine⟨_,_,_,nD,T.de,T.l6,_,rfl,_,_,_,nD,T.de,T.sT,_,rfl,a7,λb hb=>?_⟩;have sb:=au (o:=.tup [.non,.int (h-1)]) hb;refine⟨_,_,b,(none,some (h-1)),rfl,ax,by lia,by lia,λd ds H4 s4 _ hd hD=>?_⟩;have S4:=sb.trans s4;have l1:=hG.len;have l2:=hD.len;rw[oU] at l1 l2;rfl';refine⟨gs,S4 _ _ hg,ds,hd,Yw (by lia:gs.length+ds.length<=40) (by decide),λc hc=>?_⟩;have sc:=au (o:=.lst (gs++ds)) hc;exact hq _ _ ((sa.trans s3).trans (S4.trans sc)) ⟨c,gs++ds,rfl,(s2.trans ((sa.trans s3).trans S4)).free hc,ax,az.app (dF.same hG (S4.trans sc)) (dF.same hD sc)⟩
 .intro c hc;refine q c zs _ (s2.trans (au hc)) (s2.free hc) ax ?_;rw[Y0] at hz;exact hz.imp λ_ _ r=>r.same (au hc)
theorem vY:(dI u d ps n).length=n:=by unfold dI;rw[Yq,YE]
theorem ja:(ed ps n).length=n:=by unfold ed;rw[Yq,YE]
theorem vZ{G H:Hp}{v:V}{sw gw:List W2}{tb:Tb}{m:Int}(hl:gw.length=sw.length+1)(ht:∀ r∈tb,r.1.2.toNat<gw.length)(A:Bm G H v sw gw tb m):∃ r,v = .ref r/\((∃ z,H r=some (.tup [.str "never",z])/\∀ L c,¬ kO sw gw tb m L c) ∨ ∃ k cs L,H r=some (.tup [.str "may",.ref k])/\H k=some (.lst (cs.map V.int))/\G k=none/\cs.length=gw.length/\kO sw gw tb m L (bo cs)):=by
 rcases A with ⟨r,k,j,rfl,h1,h2,h3⟩|⟨r,k,j,rfl,h1,h2,h3⟩|⟨r,k,p,pp,gs,rfl,h1,h2,h3,e1,e2,h4⟩|⟨r,k,cs,pp,gs,es,rfl,h1,h2,h3,h4,e1,e2,h5,h6,h7,h8⟩
 .exact⟨r,rfl,.inl ⟨_,h1,λL c z=>by obtain⟨s,e,_⟩:=z.2.1 j none h3;cases e⟩⟩
 .exact⟨r,rfl,.inl ⟨_,h1,λL c z=>by obtain⟨s,e,_⟩:=z.2.2.1 j none h3;cases e⟩⟩
 .refine⟨r,rfl,.inl ⟨_,h1,λL c z=>?_⟩⟩;subst e1 e2;rw[Yq] at hl ht;rw[Yq] at hl;exact absurd h4 (G4 z.1 (zj.mp z.2.1) (zk.mp z.2.2.1) (by lia) (zi.mpr z.2.2.2) (λr hr=>by have:=ht r hr;lia) p [] .nil (λx hx=>by cases hx))
 .subst e1 e2;exact⟨r,rfl,.inr ⟨k,cs,es,h1,h2,h3,h4,h7,zj.mpr h5,zk.mpr h6,zi.mp h8⟩⟩
theorem Jm{u d t m:Int}{ps:List Pa}{tb:Tb}{gw:List W2}{L cs:List Int}(hl:cs.length=t.toNat)(F:kO (dI u d ps (t-1).toNat) gw tb m L (bo cs))(k:Nat)(hk:k+1<cs.length) : -d<=cP cs (k+1)-cP cs k/\cP cs (k+1)-cP cs k<=u:=by have h:=F.2.1 k (fb (none,none) ((some (-d),some u)::sel ps "step" (k:Int))) (by unfold dI;rw[YG,ZT (by lia)];rfl);have:=yq.mp h _ (.head _);exact⟨this.1 _ rfl,this.2 _ rfl⟩
theorem Jn{m:Int}{tb:Tb}{sw gw:List W2}{L cs:List Int}(F:kO sw gw tb m L (bo cs))(zs:List Int)(hn:zs.Nodup)(hz:∀ i,i∈zs↔A5 tb cs i):(zs.length:Int)<=m:=by
 have:=vk (ys:=L) hn λi hi=>by obtain⟨r,hr,rfl,hb⟩:=(hz i).mp hi;refine Decidable.byContradiction λhc=>?_;have:=yn.mp (F.2.2.2 r hr hc);unfold Gz.hs at hb;exact absurd (this.symm.trans hb) (by decide)
 have:=F.1;lia
theorem VY(h:p∈ps):p.2.2∈sel ps p.1 p.2.1:=YI.mpr ⟨p,Y4.mpr ⟨h,by simp[jI]⟩,rfl⟩
theorem Bz{G H:Hp}{v:V}{sw gw:List W2}{tb:Tb}{m:Int}(A:Bm G H v sw gw tb m)(bh:∀ L c,¬ kO sw gw tb m L c):∃ r k,v = .ref r/\H r=some (.tup [.str "never",k])/\gH H k sw gw tb m [] 10:=by
 rcases A with ⟨r,k,j,rfl,h1,h2,h3⟩|⟨r,k,j,rfl,h1,h2,h3⟩|⟨r,k,p,pp,gs,rfl,h1,h2,h3,e1,e2,h4⟩|⟨r,k,cs,pp,gs,es,rfl,h1,h2,h3,h4,e1,e2,h5,h6,h7,h8⟩
 .exact⟨r,_,rfl,h1,.mj k j rfl h2 h3⟩
 .exact⟨r,_,rfl,h1,.gol k j rfl h2 h3⟩
 .exact⟨r,_,rfl,h1,.pap p pp gs h2 (by lia) e1 e2 h4⟩
 .subst e1 e2;exact absurd ⟨h7,zj.mpr h5,zk.mpr h6,zi.mp h8⟩ (bh es (bo cs))
def el(u d t m:Int)(tb:Tb)(ps:List Pa):Prop:=∃ L c,kO (dI u d ps (t-1).toNat) (ed ps t.toNat) tb m L c
def BA(H:Hp)(v:V)(ps:List Pa):Prop:=∃ c xs,v = .ref c/\H c=some (.lst xs)/\dF H xs ps
def jb(u d t m:Int)(tb:Tb)(H:Hp)(v:V)(ps:List Pa):Prop:=gH H v (dI u d ps (t-1).toNat) (ed ps t.toNat) tb m [] 10
def tG(H H':Hp):Prop:=∀ a xs,H a=some (.tup xs)->H' a=some (.tup xs)
theorem ee.tp(s:tG H H'):∀ {t:Pp} {v:V},ee H v t->ee H' v t
 | .nil,_,h=>h
 | .full,_,⟨r,e,h1⟩=>⟨r,e,s _ _ h1⟩
 | .cls _ _ _,_,⟨r,p,q,x,y,e,h1,h2,h3,h4,h5⟩=>⟨r,p,q,x,y,e,s _ _ h1,s _ _ h2,s _ _ h3,ee.tp s h4,ee.tp s h5⟩
theorem jb.tp(h:jb u d t m tb H v ps)(s:tG H H'):jb u d t m tb H' v ps:=by
 rcases h with ⟨k,j,e,h1,h2⟩|⟨k,j,e,h1,h2⟩|⟨t,pp,gs,h1,h2,h3,h4,h5⟩
 .exact .mj k j e (s _ _ h1) h2
 .exact .gol k j e (s _ _ h1) h2
 .exact .pap t pp gs (h1.tp s) h2 h3 h4 h5
theorem n4(h:H l=some (.lst xs)):tG H (upd H l o):=λa us e=>by rw[aD λz=>by rw[z,h] at e;cases e];exact e
inductive VZ(K:Yp)(B:YC)(vs:List V)(H:Hp)(Q:VK)(aP:XK):Prop
 | mk(x p l:YC)(e t u d m:Int)(tb:Tb)(ys:List V)(cl:List (List Pa))(_:vs=[.ref x,.ref l])(_:cb B H x e t u d m p tb)(_:df e t u d m)(_:bV e t tb)(_:tb.length<=60)(_:H l=some (.lst ys))(_:az (BA H) ys cl)(_:cl.length<=200)(_:(∀ ps∈cl,ps.length<=900/\fc t ps))(_:(∀ r k cs L ps H',aj H H'->ps∈cl->H' r=some (.tup [.str "may",.ref k])->H' k=some (.lst (cs.map V.int))->cs.length=t.toNat->kO (dI u d ps (t-1).toNat) (ed ps t.toNat) tb m L (bo cs)->Q (.ref r) H'))(_:(∀ r k zs H',aj H H'->H' r=some (.tup [.str "never",.ref k])->H' k=some (.lst zs)->az (jb u d t m tb H') zs cl->(∀ ps∈cl,¬ el u d t m tb ps)->Q (.ref r) H'))
inductive V0(H:Hp)(x l pa:YC)(u d t m:Int)(tb:Tb)(cl:List (List Pa))(i:Nat)(σ:St)(H1:Hp):Prop
 | mk(zs:List V)(e1 e2:Option V)(_:σ=[some (.ref x),some (.ref l),some (.ref pa),e1,e2])(_:aj H H1)(_:H1 pa=some (.lst zs))(_:az (jb u d t m tb H1) zs (cl.take i))(_:(∀ ps∈cl.take i,¬ el u d t m tb ps))
theorem Jo(T:Tx K mg):Ok P w base 21 T.i3 (VZ K T.aL):=by
 refine ia rC ?_;rintro _ A _ _ H _ _ _ hr ⟨x,p,l,e,t,u,d,m,tb,ys,cl,rfl,hB,bJ,hot,cc,hl,hC,bq,ay,q1,q2⟩;refine⟨_,(ar (aJ 2 rC.nd (cX ag))
  (ar (cu aaV rfl (cU (aa 1)) (bX 3 rC.nd) (ar (aJ 4 rC.nd (bC (vT T) (hr.mono (by decide)) rfl T.x_ask.m T.x_ask.F.kp T.x_ask.b .nil cE (ae (aa 0) (ae (aa 3) ag))))
    (ar (aI (bW (aq (aa 4) af) ba) (aw (aA (aa 4))) aH)
    (aw (dS (ju Zk ZX ZY nV (aa 2) (ae (aq (aa 4) af) ag)))))))
  (aw (aA (aS (ae ba (ae (aa 2) ag))))))),?_⟩
 obtain⟨⟨e1,e7⟩,⟨t1,t2⟩,u0,d0,m0,me⟩:=id bJ;have yl:=hC.len;refine aC (λσ H1=>∃ pa,σ=[some (.ref x),some (.ref l),some (.ref pa),none,none]/\aj H H1/\H pa=none/\H1 pa=some (.lst [])) (λN hN=>?_) ?_
 .rfl';exact⟨YS _,λpa eS=>hN _ _ ⟨pa,rfl,au eS,eS,ax⟩⟩
 rintro _ yR σ H1 ⟨pa,rfl,s1,fpa,eS⟩;subst yR;rfl';refine⟨⟨_,ai.of (s1 _ _ hl)⟩,ki (V0 H x l pa u d t m tb cl) ⟨[],_,_,rfl,s1,eS,trivial,λ_ z=>by simp at z⟩ (λi σ H2 _ ⟨_,_,_,_,s2,_,_,_⟩=>ai.of (s2 _ _ hl)) ?_ ?_⟩
 .rintro i v σ H2 hv ⟨zs,z1,z2,rfl,s2,BB,hZ,bh⟩;obtain⟨ps,hps,c,xs,rfl,hc,hP⟩:=hC.get hv;have pin:=YF hps;obtain⟨pl,mn⟩:=ay ps pin;rfl';refine⟨x,p,c,e,t,u,d,m,xs,ps,tb,rfl,hB.same s2,hot,cc,t1,t2,by lia,e7,m0,by lia,ai.of (s2 _ _ hc),hP.same s2,pl,λz=>absurd mn z,λ_ v H3 s3 A=>?_⟩;have S3:=s2.trans s3;by_cases hh:el u d t m tb ps
  .obtain⟨L0,c0,F0⟩:=hh;obtain⟨rr,rfl,⟨z,hrr,hn⟩|⟨k9,cs,L,hrr,fE,_,hcs,F⟩⟩:=vZ (by rw[vY,ja];lia) (λr hr=>by rw[ja];have:=(hot.2 r hr).2;lia) A
   .exact absurd F0 (hn _ _)
   rw[ja] at hcs;refine ak (ah.of hrr) rfl ?_;rfl';exact q1 rr k9 cs L ps H3 S3 pin hrr fE hcs F
  .obtain⟨rr,z,rfl,hrr,hR⟩:=Bz A λL c F=>hh ⟨L,c,F⟩;refine ak (ah.of hrr) rfl ?_;rfl';have jV:=s3 _ _ BB;have zl:=hZ.len;have il:=(Yx.mp hps).1;rw[aaF] at zl;rw[if_neg (by decide)];refine⟨.inl ⟨rfl,_,ai.of jV⟩,ak (ah.of hrr) rfl ⟨zs,jV,ZE (by lia:_<=200) (by decide),_,_,_,rfl,jw fpa S3,ax,?_,λqs hq=>?_⟩⟩
   .rw[ZI,hps];exact az.snoc (hZ.imp λ_ _ h=>jb.tp (gH.same h s3) (n4 jV)) (jb.tp hR (n4 jV))
   .rw[ZI,hps] at hq;rcases Y3.mp hq with z|z
    .exact bh qs z
    .obtain rfl:qs=ps:=by simpa using z
     exact hh
 .rintro σ H2 ⟨zs,z1,z2,rfl,s2,BB,hZ,bh⟩;rw[yl,ZR] at hZ bh;rfl';exact⟨a7,λr hr=>q2 r pa zs _ (s2.trans (au hr)) ax ((au hr) _ _ BB) (hZ.imp λ_ _ h=>gH.same h (au hr)) bh⟩
theorem g9.cm(h:g9 G H v ps):BA H v ps:=let ⟨c,xs,e,_,a,b⟩:=h;⟨c,xs,e,a,b⟩
def mq(u d t m:Int)(tb:Tb)(cl:List (List Pa)):Prop:=el u d t m tb []/\∀ ps∈cl,¬ el u d t m tb ps
theorem BC(h:p∈fh i j s):p.1 = "at" /\ i<=p.2.1/\p.2.1<=j:=by unfold fh at h;obtain⟨k,hk,rfl⟩:=YI.mp h;have:=Zp.mp hk;exact⟨rfl,by show i<=i+(k:Int);lia,by show i+(k:Int)<=j;lia⟩
theorem Jp{t:Int}{ps:List Pa}(h:∀ p∈ps,p.1 = "at" /\ 0<=p.2.1/\p.2.1<t):fc t ps:=λp hp=>by obtain⟨e,h1,h2⟩:=h p hp;rw[e];exact (O9 (show (ZQ "at")≠ZQ "step" by decide)).mpr ⟨rfl,h1,h2⟩
theorem BD(hk:gb i j)(hj:j<t):∀ ps∈cL i j l h,ps.length<=900/\fc t ps:=λps hp=>by
 obtain⟨k0,k1,k2⟩:=hk;unfold cL at hp;obtain⟨k,hk,rfl⟩:=YI.mp hp;have:=Zp.mp hk;refine⟨by rw[YO,oU,oU];lia,Jp λp hp=>?_⟩;rcases Y3.mp hp with z|z
 .obtain⟨a,b,c⟩:=BC z;exact⟨a,by lia,by lia⟩
 .obtain⟨a,b,c⟩:=BC z;exact⟨a,by lia,by lia⟩
theorem V1(hk:gb i j)(hj:j<t):∀ ps∈qY i j l h,ps.length<=900/\fc t ps:=λps hp=>by
 obtain⟨k0,k1,k2⟩:=hk;unfold qY at hp;obtain⟨k,hk,hq⟩:=afw.mp hp;obtain⟨p0,BE,rfl⟩:=YI.mp hq;have:=Zp.mp hk;obtain⟨a,b,c⟩:=BC BE;refine⟨(show 2<=900 by decide),Jp λp hp=>?_⟩;rcases YK.mp hp with rfl|z
 .exact⟨rfl,by show 0<=i+(k:Int);lia,by show i+(k:Int)<t;lia⟩
 .rw[Zc.mp z];exact⟨a,by lia,by lia⟩
theorem BF:∀ {l:List Nat},(∀ x∈l,x<=n)->l.sum<=n * l.length
 | [],_=>Yz _
 | x::l,h=>by have a:=h x (.head _);have b:=BF λy hy=>h y (.tail _ hy);rw[aeR,Zn,Nat.mul_succ];lia
theorem V2(hk:gb i j):(qY i j l h).length<=200:=by
 obtain⟨k0,k1,k2⟩:=hk;unfold qY;rw[aeA];refine Yw (BF (n:=11) λx hx=>?_) ?_
 .obtain⟨k,hk,rfl⟩:=YI.mp hx;rw[Yq,oU];have:=Zp.mp hk;lia
 .rw[Yq,YE];lia
inductive V3(K:Yp)(B C:YC)(vs:List V)(H:Hp)(Q:VK)(aP:XK):Prop
 | mk(x p v dx:YC)(e t u d m i j l h:Int)(tb:Tb)(_:vs=[.ref x,.ref v])(_:cb B H x e t u d m p tb)(_:df e t u d m)(_:bV e t tb)(_:tb.length<=60)(_:H v=some (.ins C dx [("first",.int i),("last",.int j),("low",.int l),("high",.int h)]))(_:gb i j)(_:j<t)(_:(mq u d t m tb (cL i j l h)->∀ r k zs H',aj H H'->H' r=some (.tup [.str "yes",.ref k])->H' k=some (.lst zs)->az (jb u d t m tb H') zs (cL i j l h)->Q (.ref r) H'))(_:(¬ mq u d t m tb (cL i j l h)->∀ r w zs H',aj H H'->w≠("yes" : Str)->H' r=some (.tup (.str w::zs))->Q (.ref r) H'))
theorem Jq(T:Tx K mg):Ok P w base 22 T.i4 (V3 K T.aL T.bM):=by
 refine ia rD ?_;rintro _ A _ _ H _ _ _ hr ⟨x,p,v,dx,e,t,u,d,m,i,j,l,h,tb,rfl,hB,bJ,hot,cc,hv,hk,hj,q1,q2⟩;refine⟨_,(ar (aI (bR (bQ (jo (aa 0) T.bG T.sX (tf T) (hr.mono (by decide)) T.ie.b .nil bO (ae (mD (aa 1) T.de T.Sx (VP T) (hr.mono (by decide)) T.jS.b .nil bO) ag)))) (aw (iE iF rfl T.AU T.vH rfl (ae ba ag))) aH)
  (ar (aJ 2 rD.nd (bC (vT T) (hr.mono (by decide)) rfl T.x_ask.m T.x_ask.F.kp T.x_ask.b .nil cE (ae (aa 0) (ae (cX ag) ag))))
  (ar (aI (bW (aq (aa 2) af) ba) (aw (aA (aS (ae ba (ae (aq (aa 2) af) ag))))) aH)
  (ar (aJ 3 rD.nd (bC (Jo T) (hr.mono (by decide)) rfl T.i3.m T.i3.F.kp T.i3.b .nil cE (ae (aa 0) (ae (mD (aa 1) T.de T.AW (By T) (hr.mono (by decide)) T.jT.b .nil bO) ag))))
  (ar (aI (bW (aq (aa 3) af) ba) (aw (aA (aS (ae ba (ae (aq (aa 3) af) ag))))) aH)
  (ar (aJ 4 rD.nd (bC (Jo T) (hr.mono (by decide)) rfl T.i3.m T.i3.F.kp T.i3.b .nil cE (ae (aa 0) (ae (mD (aa 1) T.de T.Sy (VU T) (hr.mono (by decide)) T.lQ.b .nil bO) ag))))
  (ar (aI (bW (aq (aa 4) af) ba) (aw (aA (aS (ae ba (ae (aq (aa 4) af) ag))))) aH)
  (aw (aA (aS (ae ba (ae (aq (aa 4) af) (ae (aq (aa 3) af) ag))))))))))))),?_⟩
 obtain⟨⟨e1,e7⟩,⟨t1,t2⟩,u0,d0,m0,me⟩:=id bJ;obtain⟨k0,k1,k2⟩:=id hk;refine aC (λσ H1=>σ=[some (.ref x),some (.ref v),none,none,none]/\H1=H) (λN hN=>?_) ?_
 .obtain⟨⟨bx,hx⟩,hT⟩:=id hB;rfl';obtain⟨kvs,hkv,_⟩:=hT;refine⟨_,_,hx,rfl,_,_,hv,rfl,v,T.bM,dx,_,j,rfl,hv,T.de,T.l6,rfl,x,p,e,t,u,d,m,j,kvs,rfl,⟨⟨bx,hx⟩,hkv⟩,?_⟩;rw[decide_eq_true (show 0<=j/\j<t by lia)];exact hN _ _ ⟨rfl,rfl⟩
 rintro _ yR σ H1 ⟨rfl,rfl⟩;subst yR;refine aC (λσ H2=>∃ a,σ=[some (.ref x),some (.ref v),some (.ref a),none,none]/\aj H1 H2/\((el u d t m tb []/\∃ z,H2 a=some (.tup [.str "may",z]))∨(¬ el u d t m tb []/\∃ z,H2 a=some (.tup [.str "never",z])))) (λN hN=>?_) ?_
 .rfl';refine⟨YS _,λb hb=>?_⟩;have sb:=au (o:=.lst []) hb;have mn:fc t []:=λp hp=>by cases hp
  refine⟨x,p,b,e,t,u,d,m,[],[],tb,rfl,hB.same sb,hot,cc,t1,t2,by lia,e7,m0,by lia,ai.of ax,trivial,YS _,λz=>absurd mn z,λ_ a H2 s2 A=>?_⟩;obtain⟨rr,rfl,⟨z,hrr,hn⟩|⟨k9,cs,L,hrr,fE,_,hcs,F⟩⟩:=vZ (by rw[vY,ja];lia) (λr hr=>by rw[ja];have:=(hot.2 r hr).2;lia) A
  .exact hN _ _ ⟨rr,rfl,sb.trans s2,.inr ⟨λ⟨L,c,F⟩=>hn L c F,z,hrr⟩⟩
  .exact hN _ _ ⟨rr,rfl,sb.trans s2,.inl ⟨⟨L,_,F⟩,_,hrr⟩⟩
 rintro _ yR σ H2 ⟨a,rfl,s2,ca⟩;subst yR;refine aC (λσ H3=>σ=[some (.ref x),some (.ref v),some (.ref a),none,none]/\H3=H2/\el u d t m tb []) (λN hN=>?_) ?_
 .rfl';rcases ca with ⟨hh,z,ha⟩|⟨hh,z,ha⟩
  .refine ak (ah.of ha) rfl ?_;rfl';rw[if_neg (by decide)];exact hN _ _ ⟨rfl,rfl,hh⟩
  .refine ak (ah.of ha) rfl ?_;rfl';refine ak (ah.of ha) rfl ⟨a7,λr hr=>q2 (λz=>hh z.1) r _ _ _ (s2.trans (au hr)) (by decide) ax⟩
 rintro _ yR σ H3 ⟨rfl,rfl,hh⟩;subst yR;refine aC (λσ H4=>∃ w,σ=[some (.ref x),some (.ref v),some (.ref a),some (.ref w),none]/\aj H3 H4/\(((∃ ps∈cL i j l h,el u d t m tb ps)/\∃ z,H4 w=some (.tup [.str "may",z]))∨((∀ ps∈cL i j l h,¬ el u d t m tb ps)/\∃ k zs,H4 w=some (.tup [.str "never",.ref k])/\H4 k=some (.lst zs)/\az (jb u d t m tb H4) zs (cL i j l h)))) (λN hN=>?_) ?_
 .rfl';have Jr:=s2 _ _ hv;refine⟨_,_,Jr,rfl,v,dx,i,j,l,h,rfl,Jr,hk,λb ys H4 s4 _ hb hC=>?_⟩;refine⟨x,p,b,e,t,u,d,m,tb,ys,_,rfl,(hB.same s2).same s4,bJ,hot,cc,hb,hC.imp λ_ _ r=>g9.cm r,by unfold cL;rw[Yq,YE];lia,BD hk hj,λr k9 cs L ps H5 s5 pin hr _ _ F=>hN _ _ ⟨r,rfl,s4.trans s5,.inl ⟨⟨ps,pin,L,_,F⟩,_,hr⟩⟩,λr k9 zs H5 s5 hr fE hR bh=>hN _ _ ⟨r,rfl,s4.trans s5,.inr ⟨bh,k9,zs,hr,fE,hR⟩⟩⟩
 rintro _ yR σ H4 ⟨w,rfl,s4,cw⟩;subst yR;have S4:=s2.trans s4;refine aC (λσ H5=>σ=[some (.ref x),some (.ref v),some (.ref a),some (.ref w),none]/\H5=H4/\¬ mq u d t m tb (cL i j l h)) (λN hN=>?_) ?_
 .rfl';rcases cw with ⟨⟨ps,pin,hp⟩,z,hw⟩|⟨bh,k9,zs,hw,fE,hR⟩
  .refine ak (ah.of hw) rfl ?_;rfl';rw[if_neg (by decide)];exact hN _ _ ⟨rfl,rfl,λz=>z.2 ps pin hp⟩
  .refine ak (ah.of hw) rfl ?_;rfl';refine ak (ah.of hw) rfl ⟨a7,λr hr=>q1 ⟨hh,bh⟩ r k9 zs _ (S4.trans (au hr)) ax ((au hr) _ _ fE) (hR.imp λ_ _ h=>gH.same h (au hr))⟩
 rintro _ yR σ H5 ⟨rfl,rfl,fw⟩;subst yR;refine aC (λσ H6=>∃ b,σ=[some (.ref x),some (.ref v),some (.ref a),some (.ref w),some (.ref b)]/\aj H5 H6/\∃ y z,H6 b=some (.tup [.str y,z])) (λN hN=>?_) ?_
 .rfl';have Js:=S4 _ _ hv;refine⟨_,_,Js,rfl,v,dx,i,j,l,h,rfl,Js,hk,λb ys H6 s6 _ hb hC=>?_⟩;refine⟨x,p,b,e,t,u,d,m,tb,ys,_,rfl,(hB.same S4).same s6,bJ,hot,cc,hb,hC.imp λ_ _ r=>g9.cm r,V2 hk,V1 hk hj,λr k9 cs L ps H7 s7 pin hr _ _ F=>hN _ _ ⟨r,rfl,s6.trans s7,_,_,hr⟩,λr k9 zs H7 s7 hr fE hR bh=>hN _ _ ⟨r,rfl,s6.trans s7,_,_,hr⟩⟩
 rintro _ yR σ H6 ⟨b,rfl,s6,y,z,hb⟩;subst yR;have S6:=S4.trans s6;rfl';refine ak (ah.of hb) rfl ?_;rw[GP];refine aN (λ_=>?_) λ_=>?_
 .refine ak (ah.of hb) rfl ⟨a7,λr hr=>q2 fw r _ _ _ (S6.trans (au hr)) (by decide) ax⟩
 .refine ak (ah.of hb) rfl ?_;have hw:∃ y z,H6 w=some (.tup [.str y,z]):=by
   rcases cw with ⟨_,z,hw⟩|⟨_,k9,zs,hw,_⟩
   .exact⟨_,_,s6 _ _ hw⟩
   .exact⟨_,_,s6 _ _ hw⟩
  obtain⟨y2,z2,hw⟩:=hw;refine ak (ah.of hw) rfl ⟨by decide,λr hr=>q2 fw r _ _ _ (S6.trans (au hr)) (by decide) ax⟩
noncomputable def tH(u d t m:Int)(tb:Tb)(l h:Int)(q:P2):Bool:=@decide (mq u d t m tb (cL q.1 q.2 l h)) (Classical.propDecidable _)
theorem BG:tH u d t m tb l h q=true↔mq u d t m tb (cL q.1 q.2 l h):=by unfold tH;exact @decide_eq_true_iff _ (Classical.propDecidable _)
inductive V4(K:Yp)(B:YC)(vs:List V)(H:Hp)(Q:VK)(aP:XK):Prop
 | mk(x p:YC)(v:V)(e t u d m l h:Int)(q:P2)(tb:Tb)(_:vs=[.ref x,v,.int l,.int h])(_:cb B H x e t u d m p tb)(_:df e t u d m)(_:bV e t tb)(_:tb.length<=60)(_:aR H v q)(_:gb q.1 q.2)(_:q.2<t)(_:l<h)(_:∀ H',aj H H'->Q (.bl (tH u d t m tb l h q)) H')
theorem V5(T:Tx K mg):Ok P w base 23 T.sr (V4 K T.aL):=by
 refine ia Hr ?_;rintro _ _ _ _ H _ _ _ hr ⟨x,p,v,e,t,u,d,m,l,h,⟨i,j⟩,tb,rfl,hB,bJ,hot,cc,⟨pa,rfl,eS⟩,hk,hj,hlh,Q0⟩;refine⟨_,(aw (aA (eG nR (aq (bC (Jq T) (hr.mono (by decide)) rfl T.i4.m T.i4.F.kp T.i4.b .nil cE (ae (aa 0) (ae (t8 T.sU (Bw T) (hr.mono (by decide)) rfl T.AV T.kR.b .nil cE (ae (aq (aa 1) af) (ae (aq (aa 1) af) (ae (aa 2) (ae (aa 3) ag))))) ag))) af) ba (cB _)))),?_⟩;rfl';refine ak (ah.of eS) rfl (ak (ah.of eS) rfl λy dy hy pJ ne=>?_);have s1:aj H (upd (upd H dy (.own y)) y (.ins T.bM dy [])):=(au pJ).trans (au (by rw[aD (Zj ne)];exact hy));refine⟨y,dy,i,j,l,h,rfl,ax,λz=>absurd ⟨hk,hlh⟩ z,λ_=>⟨rfl,?_⟩⟩;rw[jd];have s2:aj H (upd (upd H dy (.own y)) y (.ins T.bM dy [("first",.int i),("last",.int j),("low",.int l),("high",.int h)])):=(au pJ).trans (au (by rw[aD (Zj ne)];exact hy));refine⟨x,p,y,dy,e,t,u,d,m,i,j,l,h,tb,rfl,hB.same s2,bJ,hot,cc,ax,hk,hj,λhs r k zs H3 s3 hr _ _=>?_,λhs r w zs H3 s3 hw hr=>?_⟩
 .refine ak (ah.of hr) rfl ⟨rfl,?_⟩;have:=Q0 H3 (s2.trans s3);rw[BG.mpr hs] at this;exact this
 .refine ak (ah.of hr) (v:=.str w) (cZ (rfl:(V.str w::zs)[0]?=some (.str w))) ⟨rfl,?_⟩;have:=Q0 H3 (s2.trans s3);rw[abh.mpr λz=>hs (BG.mp z)] at this;rw[decide_eq_false λz=>hw (V.str.inj z)];exact this
noncomputable def kX(a b:P2):Bool:=decide (a≠b) && (decide (b.1<=a.1) && decide (a.2<=b.2))
inductive V6(K:Yp)(vs:List V)(H:Hp)(Q:VK)(aP:XK):Prop
 | mk(v w:V)(a b:P2)(_:vs=[v,w])(_:aR H v a)(_:aR H w b)(_:Q (.bl (kX a b)) H)
theorem V7(T:Tx K mg):Ok P w base 1 T.sx (V6 K):=by
 refine bf Hs ?_;rintro _ _ _ _ _ _ _ _ hr ⟨v,w,⟨a1,a2⟩,⟨b1,b2⟩,rfl,⟨p,rfl,hp⟩,⟨r,rfl,gG⟩,q⟩;refine⟨_,(aw (aA (eR (eG (D7 hr.units) (aa 0) (aa 1) (cB _)) (eR (eG (iV eF) (aq (aa 1) af) (aq (aa 0) af) (cB _)) (ft (eG (iV eF) (aq (aa 0) af) (aq (aa 1) af) (cB _))))))),?_⟩;rfl';unfold kX at q;refine⟨.tuple [.int a1,.int a2],.tuple [.int b1,.int b2],.tup (ah.of hp) (.cons (.int _) (.cons (.int _) .nil)),.tup (ah.of gG) (.cons (.int _) (.cons (.int _) .nil)),rfl,rfl,by simp[PyData.depth,abd],?_⟩;have ev:aag (.tuple [.int a1,.int a2]) (.tuple [.int b1,.int b2])=decide (((a1,a2):P2)=(b1,b2)):=by simp only[aag,aa1];by_cases h1:a1=b1<;>by_cases h2:a2=b2<;>simp[h1,h2]
 rw[ev];by_cases h0:((a1,a2):P2)=(b1,b2)
 .rw[decide_eq_true h0];rw[decide_eq_false λz=>z h0] at q;rfl';exact q
 .rw[decide_eq_false h0];rw[decide_eq_true h0] at q;rfl';refine ak (ah.of gG) rfl (ak (ah.of hp) rfl ?_);rfl';refine aN (λh1=>?_) λh1=>?_
  .refine ak (ah.of hp) rfl (ak (ah.of gG) rfl ?_);rw[decide_eq_true h1] at q;exact q
  .rw[decide_eq_false h1] at q;exact q
theorem V8(h:X.K=K)(hc:X.calm=true):dW X (.builtin "any") (λxs H Q=>∃ (a:YC) (bs:List Bool),xs=[.ref a]/\ai K H a (bs.map V.bl)/\Q (.bl (bs.any id)) H):=h ▸ D6 hc
noncomputable def jW(t:Int)(n:Nat):List P2:=(YZ n).flatMap λ(f:Nat)=>(YZ (t-(0+(f:Int)+1)).toNat).map λ(k:Nat)=>(0+(f:Int),0+(f:Int)+1+(k:Int))
theorem Jt(t:Int)(n:Nat):jW t (n+1)=jW t n++(YZ (t-(0+(n:Int)+1)).toNat).map λ(k:Nat)=>(0+(n:Int),0+(n:Int)+1+(k:Int)):=by unfold jW;rw[aeb,aez];simp
theorem pairs_len(ht:t<=12)(n:Nat):(jW t n).length<=12 * n:=by unfold jW;rw[aeA];refine Yw (BF (n:=12) λx hx=>?_) (by rw[Yq,YE];exact Yz _);obtain⟨k,hk,rfl⟩:=YI.mp hx;rw[Yq,YE];lia
theorem v3:q∈jW t n↔0<=q.1/\q.1<(n:Int)/\q.1<q.2/\q.2<t:=by
 unfold jW;rw[afw];constructor
 .rintro ⟨f,hf,h⟩;obtain⟨k,hk,rfl⟩:=YI.mp h;have:=Zp.mp hf;have:=Zp.mp hk;refine⟨?_,?_,?_,?_⟩<;>dsimp only<;>lia
 .obtain⟨a,b⟩:=q;rintro ⟨h1,h2,h3,h4⟩;dsimp only at h1 h2 h3 h4;refine⟨a.toNat,Zp.mpr (by lia),YI.mpr ⟨(b-a-1).toNat,Zp.mpr (by lia),?_⟩⟩;exact Prod.ext (by dsimp only;lia) (by dsimp only;lia)
theorem aR.tp(h:aR H v q)(s:tG H H'):aR H' v q:=let ⟨a,e,h⟩:=h;⟨a,e,s _ _ h⟩
noncomputable def fk(u d t m:Int)(tb:Tb)(l h:Int):List P2:=(jW t t.toNat).filter (tH u d t m tb l h)
noncomputable def b6(u d t m:Int)(tb:Tb)(l h:Int):List P2:=(fk u d t m tb l h).filter λq=>!((fk u d t m tb l h).map λo=>kX o q).any id
inductive Ju(H:Hp)(x pa:YC)(l h:Int)(t:Int)(i:Nat)(σ:St)(H1:Hp):Prop
 | mk(zs:List V)(e1 e2:Option V)(_:σ=[some (.ref x),some (.int l),some (.int h),some (.ref pa),e1,e2])(_:aj H H1)(_:H1 pa=some (.lst zs))(_:bL H1 zs (jW t i))
inductive V9(K:Yp)(B C:YC)(vs:List V)(H:Hp)(Q:VK)(E:XK):Prop
 | mk(x p:YC)(e t u d m l h:Int)(tb:Tb)(_:vs=[.ref x,.int l,.int h])(_:cb B H x e t u d m p tb)(_:df e t u d m)(_:bV e t tb)(_:tb.length<=60)(_:(h<=l->E (.ref C) none H))(_:(l<h->∀ r zs H',aj H H'->H r=none->H' r=some (.lst zs)->bL H' zs (b6 u d t m tb l h)->Q (.ref r) H'))
theorem v5(T:Tx K mg):Ok P w base 24 T.fW (V9 K T.aL T.cK):=by
 refine ia rE ?_;rintro _ _ _ s H vs Q _ hr ⟨x,p,e,t,u,d,m,l,h,tb,rfl,hB,bJ,hot,cc,q0,q⟩;refine⟨_,(ar (aI (kM (aa 1) (aa 2)) (aw (iE iF rfl T.vD T.nr rfl (ae ba ag))) aH)
  (ar (aJ 3 rE.nd (cX ag))
  (ar (cu aaV rfl (fH rfl T.cQ (ae (ck rfl (aa 0) rfl) ag)) (bX 4 rE.nd) (aw (dS (ju Zk adn ado C5 (aa 3) (ae (c7 (bP.mk (fr:=[4]) (ys:=["first"]) rfl (by decide +kernel) rfl (by decide +kernel) rfl rfl (.cons rfl .nil) (.cons rfl rfl rfl rfl .nil) (by decide) rfl) rfl (j9 rfl T.cQ (ae (aG bp (aa 4) af) (ae (ck rfl (aa 0) rfl) ag))) (λC s2 H2 ex pn=>⟨dO,(aS (ae (aa 1) (ae (aa 0) ag)))⟩)) ag)))))
  (ar (aJ 5 rE.nd (c7 (bP.mk (fr:=[0,1,2]) (ys:=["board","low","high"]) rfl (by decide +kernel) rfl (by decide +kernel) rfl rfl (.cons rfl (.cons rfl (.cons rfl .nil))) (.cons rfl rfl rfl rfl (.cons rfl rfl rfl rfl (.cons rfl rfl rfl rfl .nil))) (by decide) rfl) rfl (cU (aa 3)) (λC s2 H2 ex pn=>⟨(gP (bQ (aF (V5 T) hr (ae (aa 1) (ae (aa 0) (ae (aa 2) (ae (aa 3) ag))))))),(aa 0)⟩)))
  (aw (aA (Qe (oN.mk (fr:=[5]) (ys:=["sure"]) rfl (λ_ _=>rfl) (λ_=>rfl) rfl (by decide +kernel) rfl rfl (.cons rfl .nil) (.cons rfl rfl rfl rfl .nil) (by decide) rfl) rfl (cU (aa 5)) (λC s2 H2 ex pn=>⟨(gP (bR (bQ (aZ (V8 (K:=K) rfl rfl) (by rfl) T.HM De (ae (c7 (bP.mk (fr:=[0]) (ys:=["pair"]) rfl (by decide +kernel) rfl (by decide +kernel) rfl rfl (.cons rfl .nil) (.cons rfl rfl rfl rfl .nil) (by decide) rfl) rfl (Qb (K:=K) rfl (aa 1)) (λC s2 H2 ex pn=>⟨dO,(aF (V7 T) hr (ae (aa 0) (ae (aa 1) ag)))⟩)) ag))))),(aa 0)⟩)))))))),?_⟩
 obtain⟨⟨e1,e7⟩,⟨t1,t2⟩,u0,d0,m0,me⟩:=id bJ;obtain⟨⟨bx,hx⟩,hT⟩:=id hB;have tn:((t.toNat:Nat):Int)=t:=by lia
 refine aC (λσ H1=>σ=[some (.ref x),some (.int l),some (.int h),none,none,none]/\H1=H/\l<h) (λN hN=>?_) ?_
 .rfl';exact aN (λh0=>⟨by decide,q0 h0⟩) λh0=>hN _ _ ⟨rfl,rfl,by lia⟩
 rintro _ yR σ H1 ⟨rfl,rfl,hlh⟩;subst yR;refine aC (λσ H2=>∃ pa,σ=[some (.ref x),some (.int l),some (.int h),some (.ref pa),none,none]/\aj H1 H2/\H1 pa=none/\H2 pa=some (.lst [])) (λN hN=>?_) ?_
 .rfl';exact⟨YS _,λpa eS=>hN _ _ ⟨pa,rfl,au eS,eS,ax⟩⟩
 rintro _ yR σ H2 ⟨pa,rfl,s2,fpa,eS⟩;subst yR;refine aC (λσ H3=>Ju H1 x pa l h t t.toNat σ H3) (λN hN=>?_) ?_
 .rfl';refine⟨_,_,_,s2 _ _ hx,T.bG,T.l8,_,rfl,t,rfl,by lia,by lia,iD (Ju H1 x pa l h t) ⟨[],_,_,rfl,s2,eS,trivial⟩ ?_ λσ H3 hi=>hN _ _ hi⟩;rintro i σ H3 hi ⟨zs,z1,z2,rfl,s3,jV,hZ⟩;have nD:=s3 _ _ hx;have zl:=hZ.len;rfl';refine⟨.inl ⟨rfl,_,ai.of jV⟩,_,_,_,nD,T.bG,T.l8,_,rfl,t,rfl,by lia,by lia,by lia,by lia,?_⟩;have pl:=pairs_len t2 i;refine cF iL (by rw[Yq,YE];exact Yw (by lia:_<=12) (by decide)) (gq (R:=λ_ x (k:Nat)=>x=V.int ((0:Int)+(i:Int)+1+k)) (R':=aR) (f:=λ(k:Nat)=>(0+(i:Int),0+(i:Int)+1+(k:Int))) (λ_ _ _ _ _ h=>h) (λ_ _ _ _ s' h=>aR.same h s') (az.fF _) (bs:=[]) trivial (λ_ _=>trivial) (λx k _ H4 s4 r Q h=>?_) (λy k _ H4 s4 r Q h=>?_) λH4 ws s4 hw=>?_)
  .rfl';exact h
  .subst r;rfl';exact⟨a7,λa ha=>h _ _ (au ha) ⟨a,rfl,ax⟩⟩
  .intro c hc;rw[Y0] at hw;have u4:=s4.trans (au (o:=.lst ws) hc);have BH:=u4 _ _ jV;have wl:=hw.len;rw[Yq,YE] at wl;refine⟨pa,c,zs,ws,rfl,rfl,BH,ax,Yw (by lia:_<=200) (by decide),zs++ws,_,_,rfl,jw fpa (s3.trans u4),ax,?_⟩;rw[Jt];exact az.app (hZ.imp λ_ _ r=>aR.tp (r.same u4) (n4 BH)) (hw.imp λ_ _ r=>aR.tp (r.same (au hc)) (n4 BH))
 rintro _ yR σ H3 ⟨zs,z1,z2,rfl,s3,jV,hZ⟩;subst yR;refine aC (λσ H4=>∃ su ws z1,σ=[some (.ref x),some (.int l),some (.int h),some (.ref pa),z1,some (.ref su)]/\aj H1 H4/\H4 su=some (.lst ws)/\bL H4 ws (fk u d t m tb l h)) (λN hN=>?_) ?_
 .have pl:=pairs_len t2 t.toNat;have zl:=hZ.len;rfl';refine⟨⟨_,ai.of jV⟩,cF iK (Yw (by lia:_<=200) (by decide)) (uU (R:=aR) (p:=tH u d t m tb l h) (ys:=[]) (λ_ _ _ _ s' h=>aR.same h s') hZ (λH' s'=>ai.of (s' _ _ jV)) (λv q9 hq H4 s4 r Q9 h9=>?_) (λv H4 s4 Q9 h9=>?_) λH4 ws s4 hw=>?_)⟩
  .obtain⟨b1,b2,b3,b4⟩:=v3.mp hq;rfl';exact⟨x,p,v,e,t,u,d,m,l,h,q9,tb,rfl,(hB.same s3).same s4,bJ,hot,cc,r,⟨b1,by lia,by lia⟩,b4,hlh,λH5 s5=>h9 _ s5⟩
  .rfl';exact h9
  .intro su nE;exact hN _ _ ⟨su,ws,_,rfl,s3.trans (s4.trans (au nE)),ax,hw.imp λ_ _ r=>r.same (au nE)⟩
 rintro _ yR σ H4 ⟨su,ws,z1,rfl,s4,nE,hW⟩;subst yR;have wl:ws.length<=200:=by rw[hW.len];unfold fk;exact Yw (Y2 _ _) (Yw (pairs_len t2 _) (by lia))
 rfl';refine⟨⟨_,ai.of nE⟩,cF iK (Yw wl (by decide)) (uU (R:=aR) (p:=λq9=>!((fk u d t m tb l h).map λo=>kX o q9).any id) (ys:=[]) (λ_ _ _ _ s' h=>aR.same h s') hW (λH' s'=>ai.of (s' _ _ nE)) (λv q9 hq H5 s5 r Q9 h9=>?_) (λv H5 s5 Q9 h9=>?_) λH5 vs s5 hv=>?_)⟩
 .rfl';refine⟨⟨_,ai.of (s5 _ _ nE)⟩,cF iK (Yw wl (by decide)) (mJ (R:=aR H5) (p:=λ_=>true) (f:=λo=>V.bl (kX o q9)) (ys:=[]) (ai.of (s5 _ _ nE)) (hW.imp λ_ _ z=>z.same s5) (λv o _ r2 Q h=>?_) (λv o _ _ r2 Q h=>?_) (λl2 bA=>?_))⟩
  .rfl';exact h
  .rfl';exact⟨_,_,o,q9,rfl,r2,r,h⟩
  .have ef:([]:List V)++((fk u d t m tb l h).filter λ_=>true).map (λo=>V.bl (kX o q9))=((fk u d t m tb l h).map λo=>kX o q9).map V.bl:=by rw[Y0,aay.mpr λ_ _=>rfl,ZH];rfl
   rw[ef];exact⟨l2,rfl,_,ai.of ax,h9 _ (au bA)⟩
 .rfl';exact h9
 .intro r hr;exact q hlh r vs _ (s4.trans (s5.trans (au hr))) ((s4.trans s5).free hr) ax (hv.imp λ_ _ z=>z.same (au hr))
theorem Jv:∀ {zs:List V} {bs:List Bool},az (λv (b:Bool)=>v=V.bl b) zs bs->zs=bs.map V.bl
 | [],[],_=>rfl
 | _::_,_::_,h=>by rw[h.1,Jv h.2];rfl
inductive Wa(K:Yp)(B:YC)(vs:List V)(H:Hp)(Q:VK)(aP:XK):Prop
 | mk(x p w:YC)(wv:V)(e t u d m i j l h:Int)(tb:Tb)(_:vs=[wv,.ref x,.int i,.int j,.int l,.int h])(_:cb B H x e t u d m p tb)(_:fB H wv w e t u d m tb)(_:df e t u d m)(_:bV e t tb)(_:tb.length<=60)(_:gb i j)(_:j<t)(_:l<h)(_:mq u d t m tb (cL i j l h))(_:∀ H',aj H H'->Q (.bl true) H')
theorem Wb(T:Tx K mg):Ok P w base 35 T.lZ (Wa K T.aL):=by
 refine ia rJ ?_;rintro _ _ _ s H _ Q _ hr ⟨x,p,w,wv,e,t,u,d,m,i,j,l,h,tb,rfl,hB,hW,bJ,hot,cc,hk,hj,hlh,hs,q⟩;refine⟨_,(ar (aJ 6 rJ.nd (t8 T.sU (Bw T) (hr.mono (by decide)) rfl T.AV T.kR.b .nil cE (ae (aa 2) (ae (aa 3) (ae (aa 4) (ae (aa 5) ag))))))
  (ar (aJ 7 rJ.nd (bC (Jq T) (hr.mono (by decide)) rfl T.i4.m T.i4.F.kp T.i4.b .nil cE (ae (aa 1) (ae (aa 6) ag))))
  (ar (aJ 8 rJ.nd (mD (aa 6) T.de T.AW (By T) (hr.mono (by decide)) T.jT.b .nil bO))
  (ar (aI (PW.pt (bZ (bR (bQ (aZ kh (by rfl) T.i8 iB (ae (aa 7) (ae (j5 (v:=.ty "tuple") rfl T.vC ue rfl) ag))))) (bZ (kN (aZ cV (by rfl) T.cJ cD (ae (aa 7) ag)) af) (dJ (kN (aq (aa 7) af) ba))))) (aw (aA cg)) aH)
  (ar (aI (PW.pt (bZ (bR (bQ (aZ kh (by rfl) T.i8 iB (ae (aq (aa 7) af) (ae (j5 (v:=.ty "list") rfl T.pf nZ rfl) ag))))) (dJ (kN (aZ cV (by rfl) T.cJ cD (ae (aq (aa 7) af) ag)) (aZ cV (by rfl) T.cJ cD (ae (aa 8) ag)))))) (aw (aA cg)) aH)
  (aw (aA (aZ (D5 rfl) (by rfl) T.HL Df (ae (xI (g:=j7 K 2 (cR (cj 0) (cR (cj 1) ji))) (kr.mk (own:=["_law_claim","_law_paper"]) (fr:=[0]) (ys:=["_law_world_here"]) rfl (by decide +kernel) rfl (by decide +kernel) rfl (.cons rfl .nil) (.cons rfl rfl rfl rfl .nil) rfl) rfl (D3 rfl T.HR (ae (aa 8) (ae (aq (aa 7) af) ag))) (λC s2 H2 ex pn=>j8 (n:=2) rfl (dC (gi (i:=0) (show (["_law_claim","_law_paper","_law_world_here"]:List Str).Nodup by decide) rfl (.inl (Y1 rfl)) (.inr (Y1 rfl))) (dC (gi (i:=1) (show (["_law_claim","_law_paper","_law_world_here"]:List Str).Nodup by decide) rfl (.inl (Y1 rfl)) (.inr (Y1 rfl))) j6))) (λC s2 H2 ex pn=>⟨dO,(aF (Jj T) hr (ae (aa 2) (ae (aa 0) (ae (aa 1) ag))))⟩)) ag))))))))),?_⟩
 refine aC (λσ H1=>∃ v dv,σ=[some wv,some (.ref x),some (.int i),some (.int j),some (.int l),some (.int h),some (.ref v),none,none]/\aj H H1/\H1 v=some (.ins T.bM dv [("first",.int i),("last",.int j),("low",.int l),("high",.int h)])) (λN hN=>?_) ?_
 .rfl';intro y dy hy pJ ne;refine⟨y,dy,i,j,l,h,rfl,ax,λz=>absurd ⟨hk,hlh⟩ z,λ_=>⟨rfl,?_⟩⟩;rw[jd];exact hN _ _ ⟨y,dy,rfl,(au pJ).trans (au (by rw[aD (Zj ne)];exact hy)),ax⟩
 rintro _ yR σ H1 ⟨v,dv,rfl,s1,hv⟩;subst yR;refine aC (λσ H2=>∃ r k zs,σ=[some wv,some (.ref x),some (.int i),some (.int j),some (.int l),some (.int h),some (.ref v),some (.ref r),none]/\aj H1 H2/\H2 r=some (.tup [.str "yes",.ref k])/\H2 k=some (.lst zs)/\az (jb u d t m tb H2) zs (cL i j l h)) (λN hN=>?_) ?_
 .rfl';exact⟨x,p,v,dv,e,t,u,d,m,i,j,l,h,tb,rfl,hB.same s1,bJ,hot,cc,hv,hk,hj,λ_ r k zs H2 s2 hr hk hz=>hN _ _ ⟨r,k,zs,rfl,s2,hr,hk,hz⟩,λz=>absurd hs z⟩
 rintro _ yR σ H2 ⟨r,k,zs,rfl,s2,gG,hJ,A7⟩;subst yR;refine aC (λσ H3=>∃ b ys,σ=[some wv,some (.ref x),some (.int i),some (.int j),some (.int l),some (.int h),some (.ref v),some (.ref r),some (.ref b)]/\aj H2 H3/\H3 b=some (.lst ys)/\az (BA H3) ys (cL i j l h)) (λN hN=>?_) ?_
 .rfl';have oT:=s2 _ _ hv;exact⟨_,_,oT,rfl,v,dv,i,j,l,h,rfl,oT,hk,λb ys H3 s3 _ hb hC=>hN _ _ ⟨b,ys,rfl,s3,hb,hC.imp λ_ _ r=>g9.cm r⟩⟩
 rintro _ yR σ H3 ⟨b,ys,rfl,s3,BI,Jw⟩;subst yR;have eT:=s3 _ _ gG;have v7:=s3 _ _ hJ;have dh:=A7.imp λ_ _ r=>gH.same r s3;have S3:=s1.trans (s2.trans s3);have yl:=Jw.len;have zl:=dh.len;obtain⟨⟨e1,e7⟩,⟨t1,t2⟩,u0,d0,m0,me⟩:=id bJ;have bl:(cL i j l h).length<=20:=by unfold cL;rw[Yq,YE];obtain⟨_,_,_⟩:=hk;lia
 rfl';refine uf eT ?_;rfl';refine⟨_,.inr ⟨_,ah.of eT,rfl⟩,?_⟩;rw[if_neg (by simp)];refine ak (ah.of eT) rfl ?_;rfl';refine ak (ah.of eT) rfl (xm v7 ?_);rfl';refine ak (ah.of eT) rfl ⟨_,dY (ai.of v7),_,dY (ai.of BI),?_⟩;rw[if_neg (by rw[yl,zl];simp)];refine ak (ah.of eT) rfl ⟨k,rfl,⟨_,ai.of BI⟩,⟨_,ai.of v7⟩,?_⟩;refine NX (xs:=ys) (ys:=zs) (Yw (by rw[afO];lia:_<=20) (by decide)) (yD (R':=λ_ v (b:Bool)=>v=V.bl b) (p:=λ_=>true) (f:=λ_=>true) (bs:=[]) (λ_ _ _ _ _ h=>h) trivial (λH' s'=>⟨ai.of (s' _ _ BI),ai.of (s' _ _ v7)⟩) (λr bU H' s' Q h=>?_) (λr bU _ H' s' Q h=>?_) λH' ws s' hw=>?_)
 .rfl';exact h
 .obtain⟨n,hn⟩:=Zy.mp bU;rw[List.getElem?_zip_eq_some] at hn;obtain⟨ps,hps,c,xs,e1,hc,hP⟩:=Jw.get hn.1;obtain⟨Wc,Jx,hR⟩:=dh.get hn.2;obtain rfl:ps=Wc:=by rw[hps] at Jx;exact Option.some.inj Jx
  obtain⟨pl,mn⟩:=BD hk hj ps (YF hps);rfl';rw[e1];exact⟨wv,r.2,w,c,e,t,u,d,m,tb,xs,ps,rfl,hW.same (S3.trans s'),t1,t2,hot,ai.of (s' _ _ hc),hP.same s',pl,gH.same hR s',λH4 s4=>h _ _ s4 rfl⟩
 .intro l2 bA;rw[Y0] at hw;have ez:=Jv hw;refine⟨l2,rfl,_,by rw[ez];exact ai.of ax,?_⟩;rw[show ((((ys.zip zs).filter λ_=>true).map λ_=>true).all id)=true by rw[agB];exact Z7.mpr λ_ _=>rfl];exact q _ (S3.trans (s'.trans (au bA)))
inductive Jy(cs:List Int)(i j l h:Int):Prop
 | mk(k n:Nat)(_:i<=(k:Int))(_:k<n)(_:(n:Int)<=j)(_:cP cs k<=l)(_:h<=cP cs n)
def Wd(H:Hp)(c:YC)(i j l h:Int)(_:Nat)(σ:St)(H1:Hp):Prop:=(∃ e1,σ=[some (.ref c),some (.int i),some (.int j),some (.int l),some (.int h),e1])/\aj H H1
inductive We(K:Yp)(vs:List V)(H:Hp)(Q:VK)(aP:XK):Prop
 | mk(c:YC)(cs:List Int)(i j l h:Int)(_:vs=[.ref c,.int i,.int j,.int l,.int h])(_:H c=some (.lst (cs.map V.int)))(_:0<=i)(_:i<=j)(_:j<(cs.length:Int))(_:j<=11)(_:¬ Jy cs i j l h)(_:∀ H',aj H H'->Q (.bl false) H')
theorem Wf(T:Tx K mg):Ok P w base 1 T.sO (We K):=by
 refine bf AO ?_;rintro _ _ _ _ H _ _ _ _ ⟨c,cs,i,j,l,h,rfl,hc,i0,ij,jl,Yk,bh,q⟩;refine⟨_,(ar (cu Zd rfl (j9 rfl T.cQ (ae (aa 1) (ae (aa 2) ag))) (bX 5 AO.nd) (aw (aI (PW.pt (gh (vg (aq (aa 0) (aa 5)) (aa 3)) (gI (kM (aZ (NG rfl) (by rfl) T.AQ xk (ae (CP CZ (aa 0) (w9 (aG bp (aa 5) af)) (w9 (aG bp (aa 2) af))) ag)) (aa 4))))) (aw (aA cg)) aH)))
  (aw (aA cg))),?_⟩
 rfl';refine⟨by lia,by lia,by lia,by lia,iD (Wd H c i j l h) ⟨⟨_,rfl⟩,aj.refl _⟩ ?_ λσ H1 ⟨⟨_,e⟩,s1⟩=>?_⟩
 .rintro k σ H1 hk ⟨⟨e1,rfl⟩,s1⟩;rfl';refine bz (ai.of (s1 _ _ hc)) (int_at (by lia) (by lia)) ?_;rfl';refine aN (λh1=>⟨_,ai.of (s1 _ _ hc),λp hp=>?_⟩) λ_=>⟨⟨_,rfl⟩,s1⟩
  have ec:jr (cs.map V.int) (some (i+(k:Int)+1)) (some (j+1))=((cs.drop (i+(k:Int)+1).toNat).take ((j+1).toNat-(i+(k:Int)+1).toNat)).map V.int:=by
   rw[List.map_take,List.map_drop,<- N4 _ (by rw[Yq];lia)]
   congr 2<;>lia
  rw[ec];have ln:((cs.drop (i+(k:Int)+1).toNat).take ((j+1).toNat-(i+(k:Int)+1).toNat))≠[]:=λz=>by have:=congrArg List.length z;rw[aaF,abv,aaR] at this;lia
  refine⟨_,ai.of ax,ln,aN (λh2=>?_) λ_=>⟨⟨_,rfl⟩,s1.trans (au hp)⟩⟩;obtain⟨m1,_⟩:=DR ln;obtain⟨n,hn⟩:=Zy.mp m1;have nl:=(Yx.mp hn).1;rw[aaF,abv] at nl;rw[List.getElem?_take,if_pos (by lia),aeY] at hn;refine absurd ⟨(i+(k:Int)).toNat,(i+(k:Int)+1).toNat+n,by lia,by lia,by lia,h1,?_⟩ bh;show h<=cP cs _;unfold cP;rw[Yr,hn];exact h2
 .subst e;rfl';exact q _ s1
theorem Jz(h1:i<=(k:Int))(h2:(k:Int)<=j):(("at",(k:Int),s):Pa)∈fh i j s:=by unfold fh;refine YI.mpr ⟨((k:Int)-i).toNat,Zp.mpr (by lia),?_⟩;rw[show i+(((k:Int)-i).toNat:Int)=(k:Int) by lia]
theorem Wg(hp:ps∈cL i j l h)(hj:j<t)(F:kO (dI u d ps (t-1).toNat) (ed ps t.toNat) tb m L (bo cs)):¬ Jy cs i j l h:=by
 rintro ⟨k,n,h1,h2,h3,h4,h5⟩;unfold cL at hp;obtain⟨q,hq,rfl⟩:=YI.mp hp;have W:∀ (k:Nat) (s:S2),(k:Int)<t->(("at",(k:Int),s):Pa)∈fh i (i+(q:Int)-1) (some (l+1),none)++fh (i+(q:Int)+1) j (none,some (h-1))->(∀ a,s.1=some a->a<=bo cs k)/\∀ a,s.2=some a->bo cs k<=a:=λk s hk hm=>yq.mp (F.2.2.1 k (fb (none,none) (sel _ "at" (k:Int))) (by unfold ed;rw[YG,ZT (by lia)];rfl)) s (VY (p:=("at",(k:Int),s)) hm);by_cases z:(k:Int)<i+(q:Int)
 .have:=(W k (some (l+1),none) (by lia) (Z4 _ (Jz h1 (by lia)))).1 (l+1) rfl;have e:bo cs k=cP cs k:=rfl;lia
 .have:=(W n (none,some (h-1)) (by lia) (YX _ (Jz (by lia) h3))).2 (h-1) rfl;have e:bo cs n=cP cs n:=rfl;lia
def Wh(H:Hp)(x:YC)(wv:V)(i j l h:Int)(u d t m:Int)(tb:Tb)(n:Nat)(σ:St)(H1:Hp):Prop:=(∃ e1 e2,σ=[some wv,some (.ref x),some (.int i),some (.int j),some (.int l),some (.int h),e1,e2])/\aj H H1/\∀ ps∈(cL i j l h).take n,¬ el u d t m tb ps
inductive Wi(K:Yp)(B:YC)(vs:List V)(H:Hp)(Q:VK)(aP:XK):Prop
 | mk(x p w:YC)(wv:V)(e t u d m i j l h:Int)(tb:Tb)(_:vs=[wv,.ref x,.int i,.int j,.int l,.int h])(_:cb B H x e t u d m p tb)(_:fB H wv w e t u d m tb)(_:df e t u d m)(_:bV e t tb)(_:tb.length<=60)(_:gb i j)(_:j<t)(_:l<h)(_:(∃ ps∈cL i j l h,el u d t m tb ps))(_:∀ H',aj H H'->Q (.bl true) H')
theorem Wj(T:Tx K mg):Ok P w base 21 T.l4 (Wi K T.aL):=by
 refine ia vz ?_;rintro _ A _ _ H _ _ _ hr ⟨x,p,w,wv,e,t,u,d,m,i,j,l,h,tb,rfl,hB,hW,bJ,hot,cc,hk,hj,hlh,⟨Wk,Wl,BE⟩,q⟩;refine⟨_,(ar (cu aaV rfl (cU (mD (t8 T.sU (Bw T) (hr.mono (by decide)) rfl T.AV T.kR.b .nil cE (ae (aa 2) (ae (aa 3) (ae (aa 4) (ae (aa 5) ag))))) T.de T.AW (By T) (hr.mono (by decide)) T.jT.b .nil bO)) (bX 6 vz.nd) (ar (aJ 7 vz.nd (bC (vT T) (hr.mono (by decide)) rfl T.x_ask.m T.x_ask.F.kp T.x_ask.b .nil cE (ae (aa 1) (ae (aa 6) ag))))
  (aw (aI (bW (aq (aa 7) af) ba) (aw (aA (eR (aF (Jd T) hr (ae (aa 0) (ae (aq (aa 7) af) ag))) (ft (zf (aF (Wf T) hr (ae (aq (aa 7) af) (ae (aa 2) (ae (aa 3) (ae (aa 4) (ae (aa 5) ag))))))))))) aH))))
  (aw (aA cg))),?_⟩
 obtain⟨⟨e1,e7⟩,⟨t1,t2⟩,u0,d0,m0,me⟩:=id bJ;rfl';intro y dy hy pJ ne;refine⟨y,dy,i,j,l,h,rfl,ax,λz=>absurd ⟨hk,hlh⟩ z,λ_=>⟨rfl,?_⟩⟩;rw[jd];have s2:aj H (upd (upd H dy (.own y)) y (.ins T.bM dy [("first",.int i),("last",.int j),("low",.int l),("high",.int h)])):=(au pJ).trans (au (by rw[aD (Zj ne)];exact hy));obtain⟨k0,k1,k2⟩:=id hk;refine⟨dy,_,ax,rfl,y,dy,i,j,l,h,rfl,ax,hk,λb ys H3 s3 _ hb hC=>?_⟩;have S3:=s2.trans s3;have yl:=hC.len;refine⟨b,rfl,⟨_,ai.of hb⟩,ki (Wh H3 x wv i j l h u d t m tb) ⟨⟨_,_,rfl⟩,aj.refl _,λ_ z=>by simp at z⟩ (λn σ H4 _ h=>ai.of (h.2.1 _ _ hb)) ?_ ?_⟩
 .rintro n v σ H4 hv ⟨⟨z1,z2,rfl⟩,s4,bh⟩;obtain⟨ps,hps,c,xs,rfl,_,hc,hP⟩:=hC.get hv;have pin:=YF hps;obtain⟨pl,mn⟩:=BD hk hj ps pin;rfl';refine⟨x,p,c,e,t,u,d,m,xs,ps,tb,rfl,(hB.same S3).same s4,hot,cc,t1,t2,by lia,e7,m0,by lia,ai.of (s4 _ _ hc),hP.same s4,pl,λz=>absurd mn z,λ_ v H5 s5 A=>?_⟩;have S5:=S3.trans (s4.trans s5);by_cases hh:el u d t m tb ps
  .obtain⟨L0,c0,F0⟩:=hh;obtain⟨rr,rfl,⟨z,hrr,hn⟩|⟨k9,cs,L,hrr,fE,_,hcs,F⟩⟩:=vZ (by rw[vY,ja];lia) (λr hr=>by rw[ja];have:=(hot.2 r hr).2;lia) A
   .exact absurd F0 (hn _ _)
   rw[ja] at hcs;refine ak (ah.of hrr) rfl ?_;rfl';refine ak (ah.of hrr) rfl ⟨wv,w,k9,e,t,u,d,m,tb,cs,rfl,hW.same S5,t1,t2,hot,cc,fE,hcs,Jm hcs F,Jn F,λH6 s6=>?_⟩;rfl';refine ak (ah.of (s6 _ _ hrr)) rfl ⟨k9,cs,i,j,l,h,rfl,s6 _ _ fE,k0,k1,by lia,k2,Wg pin (by lia) F,λH7 s7=>?_⟩;rfl';exact q _ (S5.trans (s6.trans s7))
  .obtain⟨rr,z,rfl,hrr,hR⟩:=Bz A λL c F=>hh ⟨L,c,F⟩;refine ak (ah.of hrr) rfl ?_;rfl';rw[if_neg (by decide)];refine⟨⟨_,_,rfl⟩,s4.trans s5,λqs hq=>?_⟩;rw[ZI,hps] at hq;rcases Y3.mp hq with z|z
   .exact bh qs z
   .obtain rfl:qs=ps:=by simpa using z
    exact hh
 .rintro σ H4 ⟨_,_,bh⟩;rw[yl,ZR] at bh;exact absurd BE (bh Wk Wl)
def JA(H:Hp)(l:YC)(t:Int)(_:Nat)(σ:St)(H1:Hp):Prop:=(∃ e1,σ=[some (.ref l),some (.int t),e1,none])/\H1=H
def Wm(H:Hp)(l:YC)(t:Int)(_:Nat)(σ:St)(H1:Hp):Prop:=(∃ e1 e2,σ=[some (.ref l),some (.int t),e1,e2])/\H1=H
inductive Wn(K:Yp)(vs:List V)(H:Hp)(Q:VK)(aP:XK):Prop
 | mk(l:YC)(zs:List V)(qs:List P2)(t:Int)(_:vs=[.ref l,.int t])(_:H l=some (.lst zs))(_:bL H zs qs)(_:qs.length<=200)(_:(∀ q∈qs,0<=q.1/\q.1<q.2/\q.2<t))(_:(∀ k a b,qs[k]?=some a->qs[k+1]?=some b->a.1<b.1/\a.2<b.2))(_:Q (.bl true) H)
theorem Wo(T:Tx K mg):Ok P w base 2 T.sP (Wn K):=by
 refine bf vA ?_;rintro _ _ _ _ H _ _ _ hr ⟨l,zs,qs,t,rfl,hl,hZ,Yl,hq,hup,q⟩;refine⟨_,(ar (aI (bR (bQ (aZ kh (by rfl) T.i8 iB (ae (aa 0) (ae (j5 (v:=.ty "list") rfl T.pf nZ rfl) ag))))) (aw (aA cg)) aH)
  (ar (cu Zd rfl (cU (aa 0)) (bX 2 vA.nd) (ar (aI (PW.pt (bZ (bR (bQ (aZ kh (by rfl) T.i8 iB (ae (aa 2) (ae (j5 (v:=.ty "tuple") rfl T.vC ue rfl) ag))))) (bZ (kN (aZ cV (by rfl) T.cJ cD (ae (aa 2) ag)) af) (bZ (bR (bQ (aF (pq T) hr (ae (aq (aa 2) af) ag)))) (dJ (bR (bQ (aF (pq T) hr (ae (aq (aa 2) af) ag))))))))) (aw (aA cg)) aH)
    (aw (aI (PW.pt (bZ (lN (aq (aa 2) af) af) (bZ (kM (aq (aa 2) af) (aq (aa 2) af)) (dJ (kM (aq (aa 2) af) (aa 1)))))) (aw (aA cg)) aH))))
  (ar (cu Zd rfl (fH rfl T.cQ (ae (aG da (aZ cV (by rfl) T.cJ cD (ae (aa 0) ag)) af) ag)) (bX 3 vA.nd) (aw (aI (PW.pt (bZ (kM (aq (aq (aa 0) (aa 3)) af) (aq (aq (aa 0) (aG bp (aa 3) af)) af)) (dJ (kM (aq (aq (aa 0) (aa 3)) af) (aq (aq (aa 0) (aG bp (aa 3) af)) af))))) (aw (aA cg)) aH)))
  (aw (aA cg))))),?_⟩
 have zl:=hZ.len;refine aC (λσ H1=>σ=[some (.ref l),some (.int t),none,none]/\H1=H) (λN hN=>?_) ?_
 .rfl';refine xm hl ?_;rfl';exact hN _ _ ⟨rfl,rfl⟩
 rintro _ yR σ H1 ⟨rfl,rfl⟩;subst yR;refine aC (λσ H2=>JA H1 l t 0 σ H2) (λN hN=>?_) ?_
 .rfl';refine⟨⟨_,ai.of hl⟩,ki (JA H1 l t) ⟨⟨_,rfl⟩,rfl⟩ (λi σ H2 _ h=>by rw[h.2];exact ai.of hl) ?_ λσ H2 h=>hN _ _ h⟩;rintro i v σ H2 hv ⟨⟨e1,rfl⟩,rfl⟩;obtain⟨o,ho,a,rfl,ha⟩:=hZ.get hv;obtain⟨b1,b2,b3⟩:=hq o (YF ho);rfl';refine uf ha ?_;rfl';refine⟨_,.inr ⟨_,ah.of ha,rfl⟩,?_⟩;rw[if_neg (by simp)];refine ak (ah.of ha) rfl ⟨_,rfl,.inr ⟨_,rfl⟩,?_⟩;rfl';refine ak (ah.of ha) rfl ⟨_,rfl,.inr ⟨_,rfl⟩,?_⟩;rfl';refine ak (ah.of ha) rfl ?_;rfl';rw[if_neg (by lia)];refine ak (ah.of ha) rfl (ak (ah.of ha) rfl ?_);rfl';rw[if_neg (by lia)];refine ak (ah.of ha) rfl ?_;rfl';rw[if_neg (by lia)];exact⟨⟨_,rfl⟩,rfl⟩
 rintro _ yR σ H2 ⟨⟨e1,rfl⟩,rfl⟩;subst yR;rfl';refine⟨_,dY (ai.of hl),by lia,by lia,iD (Wm H2 l t) ⟨⟨_,_,rfl⟩,rfl⟩ ?_ λσ H3 ⟨⟨_,_,e⟩,e'⟩=>?_⟩
 rotate_left
 .subst e e';rfl';exact q
 rintro k σ H3 hk ⟨⟨z1,z2,rfl⟩,rfl⟩;have g1:zs[k]?=some zs[k]:=Ys (by lia);have g2:zs[k+1]?=some zs[k+1]:=Ys (by lia);obtain⟨o1,Wq,a1,Wr,JB⟩:=hZ.get g1;obtain⟨o2,Ws,a2,Wt,JC⟩:=hZ.get g2;obtain⟨c1,c2⟩:=hup k o1 o2 Wq Ws;have f1:cC zs (0+(k:Int))=some (.ref a1):=by rw[acf,cZ g1,Wr]
 have f2:cC zs (0+(k:Int)+1)=some (.ref a2):=by rw[show (0+(k:Int)+1)=((k+1:Nat):Int) by lia,cZ g2,Wt]
 rfl';refine bz (ai.of hl) f1 (ak (ah.of JB) rfl (bz (ai.of hl) f2 (ak (ah.of JC) rfl ?_)));rfl';rw[if_neg (by lia)];refine bz (ai.of hl) f1 (ak (ah.of JB) rfl (bz (ai.of hl) f2 (ak (ah.of JC) rfl ?_)));rfl';rw[if_neg (by lia)];exact⟨⟨_,_,rfl⟩,rfl⟩
theorem v8(ht:1<=t):q∈fk u d t m tb l h↔(0<=q.1/\q.1<q.2/\q.2<t)/\mq u d t m tb (cL q.1 q.2 l h):=by
 unfold fk;rw[Y4,v3,BG];constructor
 .rintro ⟨⟨a,b,c,d⟩,e⟩;exact⟨⟨a,c,d⟩,e⟩
 .rintro ⟨⟨a,c,d⟩,e⟩;exact⟨⟨a,by lia,c,d⟩,e⟩
theorem JD:kX a b=true↔a≠b/\b.1<=a.1/\a.2<=b.2:=by unfold kX;simp
theorem pK:q∈b6 u d t m tb l h↔q∈fk u d t m tb l h/\∀ o∈fk u d t m tb l h,¬ (o≠q/\q.1<=o.1/\o.2<=q.2):=by
 unfold b6;rw[Y4,afc,<- Bool.not_eq_true,List.any_map,aai];constructor
 .rintro ⟨a,b⟩;exact⟨a,λo ho hz=>b ⟨o,ho,JD.mpr hz⟩⟩
 .rintro ⟨a,b⟩;exact⟨a,λ⟨o,ho,hz⟩=>b o ho (JD.mp hz)⟩
theorem Wu(ht:1<=t):∀ q∈b6 u d t m tb l h,0<=q.1/\q.1<q.2/\q.2<t:=λq hq=>((v8 ht).mp (pK.mp hq).1).1
theorem Wv(t:Int)(n:Nat):(jW t n).Pairwise λa b=>a.1<b.1∨(a.1=b.1/\a.2<b.2):=by
 induction n with
 | zero=>exact .nil
 | succ n ih =>
  rw[Jt];refine aei.mpr ⟨ih,?_,λa ha b hb=>?_⟩
  .rw[adh];refine List.Pairwise.imp ?_ List.pairwise_lt_range;intro a b h;exact .inr ⟨rfl,by dsimp only;lia⟩
  .obtain⟨k,hk,rfl⟩:=YI.mp hb;have:=(v3.mp ha).2.1;exact .inl (by dsimp only;lia)
theorem Ww(k:Nat)(a b:P2)(ha:(b6 u d t m tb l h)[k]?=some a)(hb:(b6 u d t m tb l h)[k+1]?=some b):a.1<b.1/\a.2<b.2:=by
 have pw:(b6 u d t m tb l h).Pairwise λa b=>a.1<b.1∨(a.1=b.1/\a.2<b.2):=((Wv t t.toNat).sublist abE).sublist abE;obtain⟨l1,e1⟩:=Yx.mp ha;obtain⟨l2,e2⟩:=Yx.mp hb;have hh:=acX.mp pw k (k+1) l1 l2 (by lia);rw[e1,e2] at hh;obtain⟨a1,a2⟩:=pK.mp (YF ha);obtain⟨b1,b2⟩:=pK.mp (YF hb);have n1:=a2 b b1;have n2:=b2 a a1;rcases hh with h|⟨h,h'⟩
 .refine⟨h,?_⟩;by_cases z:a.2<b.2
  .exact z
  .exact absurd ⟨λe=>by rw[e] at h;lia,by lia,by lia⟩ n1
 .exact absurd ⟨λe=>by rw[e] at h';lia,by lia,by lia⟩ n2
theorem JE:∀ (n:Nat) (q:P2),(q.2-q.1).toNat<=n->q∈fk u d t m tb l h->∃ o∈b6 u d t m tb l h,q.1<=o.1/\o.2<=q.2
 | n,q,hn,hq=>by
  by_cases hw:q∈b6 u d t m tb l h
  .exact⟨q,hw,Zv _,Zv _⟩
  .have:∃ o∈fk u d t m tb l h,o≠q/\q.1<=o.1/\o.2<=q.2:=Classical.byContradiction λz=>hw (pK.mpr ⟨hq,λo ho y=>z ⟨o,ho,y⟩⟩);obtain⟨o,ho,ne,h1,h2⟩:=this;have hp:o.1<o.2:=by unfold fk at ho;exact (v3.mp (Y4.mp ho).1).2.2.1
   have lt:(o.2-o.1).toNat<(q.2-q.1).toNat:=by have:¬ (o.1=q.1/\o.2=q.2):=λz=>ne (Prod.ext z.1 z.2);lia
   match n with
   | 0=>lia
   | n+1 =>
    obtain⟨o',b7,a,b⟩:=JE n o (by lia) ho;exact⟨o',b7,by lia,by lia⟩
def Wx(H:Hp)(x to:YC)(wv:V)(l h:Int)(bv:V)(_:Nat)(σ:St)(H1:Hp):Prop:=(∃ e1 e2 e3,σ=[some wv,some (.ref x),some (.int l),some (.int h),some (.ref to),some bv,e1,e2,e3])/\aj H H1
def Wy(H:Hp)(x to:YC)(wv:V)(l h:Int)(bv:V)(f:Int)(_:Nat)(σ:St)(H1:Hp):Prop:=(∃ e2 e3,σ=[some wv,some (.ref x),some (.int l),some (.int h),some (.ref to),some bv,some (.int f),e2,e3])/\aj H H1
inductive Wz(K:Yp)(B:YC)(vs:List V)(H:Hp)(Q:VK)(aP:XK):Prop
 | mk(x p w to:YC)(wv:V)(e t u d m l h:Int)(tb:Tb)(zs:List V)(_:vs=[wv,.ref x,.int l,.int h,.ref to])(_:cb B H x e t u d m p tb)(_:fB H wv w e t u d m tb)(_:df e t u d m)(_:bV e t tb)(_:tb.length<=60)(_:l<h)(_:H to=some (.lst zs))(_:bL H zs (b6 u d t m tb l h))(_:∀ H',aj H H'->Q (.bl true) H')
theorem JF(T:Tx K mg):Ok P w base 36 T.i7 (Wz K T.aL):=by
 refine ia pd ?_;rintro _ A _ s H vs _ _ hr ⟨x,p,w,to,wv,e,t,u,d,m,l,h,tb,zs,rfl,hB,hW,bJ,hot,cc,hlh,hto,hZ,q⟩;refine⟨_,(ar (aI (bR (bQ (aF (Wo T) hr (ae (aa 4) (ae (aq (aa 0) af) ag))))) (aw (aA cg)) aH)
  (ar (aJ 5 pd.nd (bC (vT T) (hr.mono (by decide)) rfl T.x_ask.m T.x_ask.F.kp T.x_ask.b .nil cE (ae (aa 1) (ae (cX ag) ag))))
  (ar (aI (bW (aq (aa 5) af) ba) (aw (aA (eR (eG (x3 hr.units) (aa 4) (cX ag) (cB _)) (ft (aF (Jj T) hr (ae (aa 0) (ae (cX ag) (ae (aq (aa 5) af) ag)))))))) aH)
  (ar (aI (bR (bQ (aF (Jd T) hr (ae (aa 0) (ae (aq (aa 5) af) ag))))) (aw (aA cg)) aH)
  (ar (cu aaV rfl (fH rfl T.cQ (ae (aG da (aq (aa 0) af) af) ag)) (bX 6 pd.nd) (aw (cu aaV rfl (j9 rfl T.cQ (ae (aG bp (aa 6) af) (ae (aq (aa 0) af) ag))) (bX 7 pd.nd) (ar (qA (i:=8) (bP.mk (fr:=[6,7]) (ys:=["_law_first","_law_last"]) rfl (by decide +kernel) rfl (by decide +kernel) rfl rfl (.cons rfl (.cons rfl .nil)) (.cons rfl rfl rfl rfl (.cons rfl rfl rfl rfl .nil)) (by decide) rfl) rfl pd.nd rfl rfl (cU (aa 4)) (λC s2 H2 ex pn=>⟨(gP (PW.pt (gh (vg (aa 1) (cI (K:=K) (aa 0) af)) (gI (vg (cI (K:=K) (aa 0) af) (aa 2)))))),(aa 0)⟩))
    (ar (aI (PW.pt (gh (jn (Sn hr.units) (aS (ae (aa 6) (ae (aa 7) ag))) (aa 4) (by with_unfolding_all rfl)) (gI (bR (bQ (bC (Wb T) (hr.mono (by decide)) rfl T.lZ.m T.lZ.F.kp T.lZ.b .nil cE (ae (aa 0) (ae (aa 1) (ae (aa 6) (ae (aa 7) (ae (aa 2) (ae (aa 3) ag)))))))))))) (aw (aA cg)) aH)
    (aw (aI (PW.pt (gh (jn (x3 hr.units) (aa 8) (cX ag) (cB _)) (gI (bR (bQ (bC (Wj T) (hr.mono (by decide)) rfl T.l4.m T.l4.F.kp T.l4.b .nil cE (ae (aa 0) (ae (aa 1) (ae (aa 6) (ae (aa 7) (ae (aa 2) (ae (aa 3) ag)))))))))))) (aw (aA cg)) aH)))))))
  (aw (aA cg))))))),?_⟩
 obtain⟨⟨e1,e7⟩,⟨t1,t2⟩,u0,d0,m0,me⟩:=id bJ;obtain⟨wr,rfl,hwr,hwt⟩:=id hW;have wl:(b6 u d t m tb l h).length<=200:=by unfold b6 fk;exact Yw (Y2 _ _) (Yw (Y2 _ _) (Yw (pairs_len t2 _) (by lia)))
 refine aC (λσ H1=>σ=[some (.ref wr),some (.ref x),some (.int l),some (.int h),some (.ref to),none,none,none,none]/\H1=H) (λN hN=>?_) ?_
 .rfl';refine ak (ah.of hwr) rfl ⟨to,zs,_,t,rfl,hto,hZ,wl,Wu t1,Ww,?_⟩;rfl';exact hN _ _ ⟨rfl,rfl⟩
 rintro _ yR σ H1 ⟨rfl,rfl⟩;subst yR;refine aC (λσ H2=>∃ r,σ=[some (.ref wr),some (.ref x),some (.int l),some (.int h),some (.ref to),some (.ref r),none,none,none]/\aj H1 H2/\((¬ el u d t m tb []/\∃ z,H2 r=some (.tup [.str "never",z])/\jb u d t m tb H2 z [])∨(el u d t m tb []/\∃ k cs L,H2 r=some (.tup [.str "may",.ref k])/\H2 k=some (.lst (cs.map V.int))/\cs.length=t.toNat/\kO (dI u d [] (t-1).toNat) (ed [] t.toNat) tb m L (bo cs)))) (λN hN=>?_) ?_
 .rfl';refine⟨YS _,λb hb=>?_⟩;have sb:=au (o:=.lst []) hb;have mn:fc t []:=λp hp=>by cases hp
  refine⟨x,p,b,e,t,u,d,m,[],[],tb,rfl,hB.same sb,hot,cc,t1,t2,by lia,e7,m0,by lia,ai.of ax,trivial,YS _,λz=>absurd mn z,λ_ a H2 s2 A=>?_⟩;by_cases hh:el u d t m tb []
  .obtain⟨L0,c0,F0⟩:=id hh;obtain⟨rr,rfl,⟨z,hrr,hn⟩|⟨k9,cs,L,hrr,fE,_,hcs,F⟩⟩:=vZ (by rw[vY,ja];lia) (λr hr=>by rw[ja];have:=(hot.2 r hr).2;lia) A
   .exact absurd F0 (hn _ _)
   .rw[ja] at hcs;exact hN _ _ ⟨rr,rfl,sb.trans s2,.inr ⟨hh,k9,cs,L,hrr,fE,hcs,F⟩⟩
  .obtain⟨rr,z,rfl,hrr,hR⟩:=Bz A λL c F=>hh ⟨L,c,F⟩;exact hN _ _ ⟨rr,rfl,sb.trans s2,.inl ⟨hh,z,hrr,hR⟩⟩
 rintro _ yR σ H2 ⟨r,rfl,s2,cas⟩;subst yR;have S2:=s2;refine aC (λσ H3=>σ=[some (.ref wr),some (.ref x),some (.int l),some (.int h),some (.ref to),some (.ref r),none,none,none]/\H3=H2/\el u d t m tb []) (λN hN=>?_) ?_
 .rfl';rcases cas with ⟨hh,z,hr,hR⟩|⟨hh,k,cs,L,hr,hk,hcs,F⟩
  .have w0:b6 u d t m tb l h=[]:=List.eq_nil_iff_forall_not_mem.mpr λo ho=>hh ((v8 t1).mp (pK.mp ho).1).2.1;rw[w0] at hZ;cases zs with
   | cons _ _=>cases hZ
   | nil =>
   refine ak (ah.of hr) rfl ?_;rfl';refine⟨YS _,λb hb=>?_⟩;have u1:=au (o:=.lst []) hb;refine yk (d:=.list []) (n:=1) (.lst (ai.of (u1 _ _ (s2 _ _ hto))) .nil) (.lst (ai.of ax) .nil) (Gd.of rfl) (by decide) ?_;rfl';refine⟨YS _,λc hc=>?_⟩;have u2:=u1.trans (au (o:=.lst []) hc);refine ak (ah.of (u2 _ _ hr)) rfl ⟨.ref wr,z,w,c,e,t,u,d,m,tb,[],[],rfl,hW.same (s2.trans u2),t1,t2,hot,ai.of ax,trivial,YS _,gH.same hR u2,λH4 s4=>q _ (s2.trans (u2.trans s4))⟩
  .refine ak (ah.of hr) rfl ?_;rfl';rw[if_neg (by decide)];exact hN _ _ ⟨rfl,rfl,hh⟩
 rintro _ yR σ H3 ⟨rfl,rfl,hh⟩;subst yR;refine aC (λσ H4=>σ=[some (.ref wr),some (.ref x),some (.int l),some (.int h),some (.ref to),some (.ref r),none,none,none]/\aj H3 H4) (λN hN=>?_) ?_
 .rfl';rcases cas with ⟨WA,_⟩|⟨_,k,cs,L,hr,hk,hcs,F⟩
  .exact absurd hh WA
  refine ak (ah.of hr) rfl ⟨.ref wr,w,k,e,t,u,d,m,tb,cs,rfl,hW.same s2,t1,t2,hot,cc,hk,hcs,Jm hcs F,Jn F,λH4 s4=>?_⟩;rfl';exact hN _ _ ⟨rfl,s4⟩
 rintro _ yR σ H4 ⟨rfl,s4⟩;subst yR;have S4:=s2.trans s4;have JG:=S4 _ _ hwr;rfl';refine ak (ah.of JG) rfl ?_;rfl';refine⟨by lia,by lia,iD (Wx H4 x to (.ref wr) l h (.ref r)) ⟨⟨_,_,_,rfl⟩,aj.refl _⟩ ?_ λσ H5 ⟨⟨_,_,_,e⟩,s5⟩=>?_⟩
 rotate_left
 .subst e;rfl';exact q _ (S4.trans s5)
 rintro f σ H5 hf ⟨⟨z1,z2,z3,rfl⟩,s5⟩;rfl';refine ak (ah.of (s5 _ _ JG)) rfl ⟨t,rfl,by lia,by lia,by lia,by lia,iD (Wy H4 x to (.ref wr) l h (.ref r) (0+(f:Int))) ⟨⟨_,_,rfl⟩,s5⟩ ?_ λσ H6 ⟨⟨_,_,e⟩,s6⟩=>⟨⟨_,_,_,e⟩,s6⟩⟩;rintro g σ H6 hg ⟨⟨z2,z3,rfl⟩,s6⟩;have S6:=S4.trans s6;have fg:0<=0+(f:Int)/\0+(f:Int)<0+(f:Int)+1+(g:Int)/\0+(f:Int)+1+(g:Int)<t:=by lia
 generalize 0+(f:Int)+1+(g:Int)=G at fg ⊢;generalize 0+(f:Int)=F at fg ⊢;obtain⟨f0,f1,f2⟩:=fg;refine aC (λσ H7=>∃ wi vs,σ=[some (.ref wr),some (.ref x),some (.int l),some (.int h),some (.ref to),some (.ref r),some (.int F),some (.int G),some (.ref wi)]/\aj H6 H7/\H7 wi=some (.lst vs)/\bL H7 vs ((b6 u d t m tb l h).filter λo=>decide (F<=o.1) && decide (o.2<=G))) (λN hN=>?_) ?_
 .rfl';refine⟨⟨_,ai.of (S6 _ _ hto)⟩,cF iK (Yw (by rw[hZ.len];exact wl:_<=200) (by decide)) (uU (R:=aR) (p:=λo=>decide (F<=o.1) && decide (o.2<=G)) (ys:=[]) (λ_ _ _ _ s' h=>aR.same h s') (hZ.imp λ_ _ r=>aR.same r S6) (λH' s'=>ai.of ((S6.trans s') _ _ hto)) (λv o _ H7 s7 r Q9 h9=>?_) (λv H7 s7 Q9 h9=>?_) λH7 vs s7 hv=>?_)⟩
  .obtain⟨a,rfl,ha⟩:=r;have h9:=h9 H7 (aj.refl _);rfl';refine ak (ah.of ha) rfl ?_;rfl';refine aN (λh1=>?_) λh1=>?_
   .refine ak (ah.of ha) rfl ?_;rfl';rw[decide_eq_true h1,adA] at h9;refine aN (λh2=>?_) λh2=>?_
    .rw[decide_eq_true h2] at h9;exact h9
    .rw[decide_eq_false h2] at h9;exact h9
   .rw[decide_eq_false h1,ab4] at h9;exact h9
  .rfl';exact h9
  .intro wi wa;exact hN _ _ ⟨wi,vs,rfl,s7.trans (au wa),ax,hv.imp λ_ _ r=>r.same (au wa)⟩
 rintro _ yR σ H7 ⟨wi,vs,rfl,s7,wa,hV⟩;subst yR;have S7:=S6.trans s7;refine aC (λσ H8=>σ=[some (.ref wr),some (.ref x),some (.int l),some (.int h),some (.ref to),some (.ref r),some (.int F),some (.int G),some (.ref wi)]/\aj H7 H8) (λN hN=>?_) ?_
 .rfl';refine⟨a7,λka gE=>?_⟩;have u1:=au (o:=.tup [.int F,.int G]) gE;refine⟨to,zs,_,(F,G),rfl,ai.of ((S7.trans u1) _ _ hto),hZ.imp λ_ _ r=>aR.same r (S7.trans u1),⟨ka,rfl,ax⟩,?_⟩;by_cases bI:(F,G)∈b6 u d t m tb l h
  .rw[decide_eq_true bI];rfl';have hs:=((v8 t1).mp (pK.mp bI).1).2;refine⟨x,p,w,.ref wr,e,t,u,d,m,F,G,l,h,tb,rfl,hB.same (S7.trans u1),hW.same (S7.trans u1),bJ,hot,cc,⟨f0,by lia,by lia⟩,f2,hlh,hs,λH8 s8=>?_⟩;rfl';exact hN _ _ ⟨rfl,u1.trans s8⟩
  .rw[decide_eq_false bI];rfl';exact hN _ _ ⟨rfl,u1⟩
 rintro _ yR σ H8 ⟨rfl,s8⟩;subst yR;have S8:=S7.trans s8;rfl';refine⟨YS _,λc hc=>?_⟩;have u1:=au (o:=.lst []) hc;have gd:Gd 2 (.list (((b6 u d t m tb l h).filter λo=>decide (F<=o.1) && decide (o.2<=G)).map λo=>PyData.tuple [.int o.1,.int o.2])):=.lst λd hd=>by obtain⟨o,_,rfl⟩:=YI.mp hd;exact .of rfl
 refine⟨_,.list [],.lst (ai.of ((s8.trans u1) _ _ wa)) (jF.ym (λ_ _ r=>vm r) (hV.imp λ_ _ r=>aR.same r (s8.trans u1))),.lst (ai.of ax) .nil,gd.lay,rfl,Yw gd.dep (by decide),?_⟩;cases hfl:(b6 u d t m tb l h).filter λo=>decide (F<=o.1) && decide (o.2<=G) with
 | cons o os =>
  rw[show (PyData.list ((o::os).map λo=>PyData.tuple [.int o.1,.int o.2])).eqv (.list [])=false by simp[aag,aa1]];rfl';exact⟨⟨_,_,rfl⟩,s6.trans (s7.trans (s8.trans u1))⟩
 | nil =>
  have fw:¬ mq u d t m tb (cL F G l h):=λhs=>by obtain⟨o,ho,a,b⟩:=JE _ (F,G) (Yz _) ((v8 t1).mpr ⟨⟨f0,f1,f2⟩,hs⟩);have:o∈(b6 u d t m tb l h).filter λo=>decide (F<=o.1) && decide (o.2<=G):=Y4.mpr ⟨ho,by simp;exact⟨a,b⟩⟩;rw[hfl] at this;cases this
  have hex:∃ ps∈cL F G l h,el u d t m tb ps:=Classical.byContradiction λz=>fw ⟨hh,λps hp hf=>z ⟨ps,hp,hf⟩⟩;rw[show (PyData.list (([]:List P2).map λo=>PyData.tuple [.int o.1,.int o.2])).eqv (.list [])=true by simp[aag,aa1]];rfl';refine⟨x,p,w,.ref wr,e,t,u,d,m,F,G,l,h,tb,rfl,hB.same (S8.trans u1),hW.same (S8.trans u1),bJ,hot,cc,⟨f0,by lia,by lia⟩,f2,hlh,hex,λH9 s9=>?_⟩;rfl';exact⟨⟨_,_,rfl⟩,s6.trans (s7.trans (s8.trans (u1.trans s9)))⟩
inductive WB(K:Yp)(B:YC)(vs:List V)(H:Hp)(Q:VK)(aP:XK):Prop
 | mk(x p:YC)(e t u d m l h:Int)(tb:Tb)(_:vs=[.ref x,.int l,.int h])(_:cb B H x e t u d m p tb)(_:df e t u d m)(_:bV e t tb)(_:tb.length<=60)(_:h<=l)(_:∀ H',aj H H'->Q (.bl true) H')
theorem JH(T:Tx K mg):Ok P w base 25 T.sQ (WB K T.aL):=by
 refine bf rK ?_;rintro _ A _ _ H _ _ _ hr ⟨x,p,e,t,u,d,m,l,h,tb,rfl,hb,bJ,hot,cc,aT,q⟩;refine⟨_,(ar (aJ 3 rK.nd cg)
  (ar (MX (λcls _ H1=>cls = .ref T.cK/\aj H H1) 4 rfl rfl rfl T.vD rK.nd rfl rfl (λF pn hx=>(aw (dS (bC (v5 T) (hr.mono (by decide)) rfl T.fW.m T.fW.F.kp T.fW.b .nil hx (ae (aa 0) (ae (aa 1) (ae (aa 2) ag))))))) (λA' pn=>(aw (aJ 3 rK.nd (eR (aZ (Dm (K:=K) rfl) (by rfl) T.i8 iB (ae (aa 4) (ae (tP (v:=.ref T.nq) rfl T.Su rfl) ag))) (ft (zf (aZ (Dm (K:=K) rfl) (by rfl) T.i8 iB (ae (aa 4) (ae (tP (v:=.ref T.gD) rfl T.AU rfl) ag))))))))))
  (aw (aA (aa 3))))),?_⟩
 rfl';refine⟨?_,?_⟩
 .rfl';exact⟨x,p,e,t,u,d,m,l,h,tb,rfl,hb,bJ,hot,cc,λ_=>⟨rfl,aj.refl _⟩,λz=>absurd z (by lia)⟩
 .rintro cls H' ⟨rfl,hs⟩;refine⟨_,rfl,T.SH,λa ha=>?_⟩;have X0:=ax (H:=H') (a:=a) (o:=gO a T.cK);have S0:=hs.trans (au (o:=gO a T.cK) ha);generalize upd H' a (gO a T.cK)=Hx at X0 S0 ⊢;rfl';refine Dp X0 T.nr (λz=>nomatch z) T.SJ ?_;rfl';refine Dp X0 T.nr (λz=>nomatch z) T.SK ?_;rfl';exact q _ S0
inductive WC(K:Yp)(vs:List V)(H:Hp)(Q:VK)(aP:XK):Prop
 | mk(a:YC)(ns:List Int)(n:Int)(_:vs=[.ref a,.int n])(_:ai K H a (ns.map V.int))(_:iP ns)(_:1<=n)(_:n<=3)(_:∀ (r:YC) (e t u d m f:Int) (H':Hp),aj H H'->H' r=some (.tup (nu e t u d m f))->mf e t u d m f->Q (.ref r) H')
theorem WD(T:Tx K mg):Ok P w base 3 T.sN (WC K):=by
 refine bf rH ?_;rintro _ _ _ _ H _ _ _ hr ⟨a,ns,n,rfl,hS,hn,n1,n3,q⟩;refine⟨_,(ar (aJ 2 rH.nd (aF (Ts T) hr (ae (aa 0) ag)))
  (ar (aJ 3 rH.nd (aG bp af (aF (cp T) hr (ae (aa 0) (ae af (ae af (ae af ag)))))))
  (ar (aJ 4 rH.nd (aG bp af (aF (cp T) hr (ae (aa 0) (ae af (ae af (ae af ag)))))))
  (aw (aA (aS (ae (aZ (wW rfl) (by rfl) T.sR qp (ae (aa 1) (ae (aq (aa 2) af) ag))) (ae (aa 3) (ae (aa 4) (ae (aq (aa 2) af) (ae (aZ (wW rfl) (by rfl) T.sR qp (ae (aq (aa 2) af) (ae af ag))) (ae (aq (aa 2) af) ag)))))))))))),?_⟩
 refine aC (λσ H1=>∃ r e t u d m f,σ=[some (.ref a),some (.int n),some (.ref r),none,none]/\aj H H1/\H1 r=some (.tup (nu e t u d m f))/\mf e t u d m f) (λN hN=>?_) ?_
 .rfl';exact⟨a,ns,rfl,hS,hn,λr e t u d m f H1 s1 h1 sh=>hN _ _ ⟨r,e,t,u,d,m,f,rfl,s1,h1,sh⟩⟩
 rintro _ yR σ H1 ⟨r,e,t,u,d,m,f,rfl,s1,cf,sh⟩;subst yR;rfl';refine⟨a,ns,_,_,_,rfl,s1.seq hS,hn,⟨by decide,by decide⟩,by decide,by decide,λk k0 k1=>?_⟩;rfl';refine⟨a,ns,_,_,_,rfl,s1.seq hS,hn,⟨by decide,by decide⟩,by decide,by decide,λj j0 j1=>?_⟩;rfl';obtain⟨he,ht,het,hu,hd,hm,hf⟩:=sh;refine ak (ah.of cf) rfl ⟨e,rfl,ak (ah.of cf) rfl (ak (ah.of cf) rfl ⟨m,rfl,ak (ah.of cf) rfl ⟨by decide,λp hp=>q p _ _ _ _ _ _ _ (s1.trans (au hp)) ax ?_⟩⟩)⟩;have a1:1<=(if e<n then e else n)/\(if e<n then e else n)<=3:=by split<;>lia
 have a2:0<=(if 1<m then 1 else m)/\(if 1<m then 1 else m)<=1:=by split<;>lia
 exact⟨⟨a1.1,by lia⟩,⟨by lia,by lia⟩,.inl ⟨a1.2,by lia⟩,⟨by lia,by lia⟩,hd,⟨a2.1,by lia⟩,hf⟩
theorem cb.WE{B:YC}{H H':Hp}{y p:YC}{e t u d m:Int}{tb:Tb}{kvs:List (List Key × V)}{s:P2}(ob:∃ dx,H y=some (.ins B dx (vI e t u d m p)))(hp:H p=some (.dT kvs))(hA:a8 H kvs tb)(sb:SameBut p H H')(c6:H' p=some (.dT (fL kvs (bB s.1 s.2)))):cb B H' y e t u d m p (lA tb s) :=
 let ⟨dx,hx⟩:=ob
 ⟨⟨dx,sb y _ (λz=>by rw[z,hp] at hx;cases hx) hx⟩,_,c6,a8.drop (hA.imp λv a b z=>z.fr (SameBut.fr sb hp))⟩
theorem JI(qs:List P2):Gd 2 (.list (qs.map λo=>PyData.tuple [.int o.1,.int o.2])):=.lst λd hd=>by obtain⟨o,_,rfl⟩:=YI.mp hd;exact .of rfl
theorem wb(h:H l=some (.lst zs))(p:bL H zs qs):Dat K H (.ref l) (.list (qs.map λo=>PyData.tuple [.int o.1,.int o.2])):=.lst (ai.of h) (jF.ym (λ_ _ r=>vm r) p)
inductive wc(K:Yp)(vs:List V)(H:Hp)(Q:VK)(aP:XK):Prop
 | mk(a:YC)(ns:List Int)(_:vs=[.ref a])(_:ai K H a (ns.map V.int))(_:iP ns)(_:∀ H',Q (.bl true) H')
theorem WG(T:Tx K mg):Ok P w base 37 T.nk (wc K):=by
 refine ia fV ?_;rintro _ _ _ s H vs _ _ hr ⟨a,ns,rfl,hS,hn,q⟩;refine⟨_,(ar (aJ 1 fV.nd (aF (WD T) hr (ae (aa 0) (ae af ag))))
  (ar (aI (bW (aF (cp T) hr (ae (aa 0) (ae af (ae af (ae af ag))))) af) (aw (aJ 1 fV.nd (aS (ae af (ae (aG bp af (aF (cp T) hr (ae (aa 0) (ae af (ae af (ae af ag)))))) (ae (aq (aa 1) af) (ae (aq (aa 1) af) (ae af (ae (aq (aa 1) af) ag))))))))) aH)
  (ar (aJ 2 fV.nd (aF (Tu T) hr (ae (aa 0) (ae (aa 1) (ae (aF (To T) hr (ae (aa 0) ag)) ag)))))
  (ar (aJ 3 fV.nd (aF (TF T) hr (ae (aa 0) (ae (aa 1) (ae (aa 2) ag)))))
  (ar (aJ 4 fV.nd (aG bp (aq (aa 2) (aF (cp T) hr (ae (aa 0) (ae af (ae af (ae (aq (aa 1) af) ag)))))) (aG kL (aq (aa 1) af) (aF (cp T) hr (ae (aa 0) (ae af (ae af (ae af ag))))))))
  (ar (aJ 5 fV.nd (aG da (aq (aa 2) (aF (cp T) hr (ae (aa 0) (ae af (ae af (ae (aq (aa 1) af) ag)))))) (aG kL (aq (aa 1) af) (aF (cp T) hr (ae (aa 0) (ae af (ae af (ae af ag))))))))
  (ar (aJ 5 fV.nd (aZ (K8 rfl) (by rfl) T.AQ xk (ae (aG bp (aa 4) af) (ae (aa 5) ag))))
  (ar (aJ 6 fV.nd (aF (Ug T) hr (ae (aa 3) ag)))
  (ar (aJ 7 fV.nd (bC (v5 T) (hr.mono (by decide)) rfl T.fW.m T.fW.F.kp T.fW.b .nil cE (ae (aa 6) (ae (aa 4) (ae (aa 5) ag)))))
  (ar (aI (bR (bQ (bC (JF T) (hr.mono (by decide)) rfl T.i7.m T.i7.F.kp T.i7.b .nil cE (ae (aa 3) (ae (aa 6) (ae (aa 4) (ae (aa 5) (ae (aa 7) ag)))))))) (aw (aA cg)) aH)
  (ar (aJ 8 fV.nd (CK LK (by rfl) T.pf nZ (ae (aa 7) ag)))
  (ar (dS (ju Zk ZX ZY nV (aa 7) (ae (aS (ae af (ae af ag))) ag)))
  (ar (aI (jn (D7 hr.units) (aF (v5 T) hr (ae (aa 6) (ae (aa 4) (ae (aa 5) ag)))) (aa 8) (cB _)) (aw (aA cg)) aH)
  (ar (aI (vh (aZ E8 (by rfl) T.cJ cD (ae (aq (aa 3) af) ag)) af) (ar (aJ 9 fV.nd (aq (CK (OS rfl) (by rfl) T.pf nZ (ae (aq (aa 3) af) ag)) (aF (cp T) hr (ae (aa 0) (ae af (ae af (ae (aZ E8 (by rfl) T.cJ cD (ae (aq (aa 3) af) ag)) ag)))))))
    (ar (dS (jo (aa 6) T.bG T.SD (TN T) (hr.mono (by decide)) T.lU.b .nil cE (ae (aq (aa 9) af) (ae (aq (aa 9) af) ag))))
    (ar (dS (E7 (eY hr) (aq (aa 3) af) (aa 9) ⟨rfl,rfl,rfl,rfl⟩))
    (aw (aI (bR (bQ (bC (JF T) (hr.mono (by decide)) rfl T.i7.m T.i7.F.kp T.i7.b .nil cE (ae (aa 3) (ae (aa 6) (ae (aa 4) (ae (aa 5) (ae (bC (v5 T) (hr.mono (by decide)) rfl T.fW.m T.fW.F.kp T.fW.b .nil cE (ae (aa 6) (ae (aa 4) (ae (aa 5) ag)))) ag)))))))) (aw (aA cg)) aH))))) aH)
  (aw (aA (eR (eG (x3 hr.units) (aa 7) (aG lg (aa 8) (cX (ae (aS (ae af (ae af ag))) ag))) (cB _)) (eR (aF (JH T) hr (ae (aa 6) (ae (aa 4) (ae (aa 4) ag)))) (ft (aF (JH T) hr (ae (aa 6) (ae (aa 5) (ae (aa 4) ag))))))))))))))))))))))),?_⟩
 refine aC (λσ H1=>∃ (r:YC) (e t u d m f:Int),σ=[some (.ref a),some (.ref r),none,none,none,none,none,none,none,none]/\aj H H1/\H1 r=some (.tup (nu e t u d m f))/\mf e t u d m f) (λN hN=>?_) ?_
 .rfl';exact⟨a,ns,2,rfl,hS,hn,by decide,by decide,λr e t u d m f H1 s1 cf sh=>hN _ _ ⟨r,e,t,u,d,m,f,rfl,s1,cf,sh⟩⟩
 rintro _ yR σ H0 ⟨r0,e,t,u,d,m,f,rfl,s0,bU,tI⟩;subst yR;refine aC (λσ H1=>∃ (r:YC) (e t u d m f:Int),σ=[some (.ref a),some (.ref r),none,none,none,none,none,none,none,none]/\aj H H1/\H1 r=some (.tup (nu e t u d m f))/\mf e t u d m f) (λN hN=>?_) ?_
 .rfl';refine⟨a,ns,304,10061,6,rfl,s0.seq hS,hn,⟨by decide,by decide⟩,by decide,by decide,λk k0 k1=>?_⟩;rfl';refine aN (λ_=>?_) λ_=>hN _ _ ⟨r0,e,t,u,d,m,f,rfl,s0,bU,tI⟩;refine⟨a,ns,305,10067,4,rfl,s0.seq hS,hn,⟨by decide,by decide⟩,by decide,by decide,λj j0 j1=>?_⟩;rfl';refine ak (ah.of bU) rfl (ak (ah.of bU) rfl (ak (ah.of bU) rfl ⟨by decide,λp hp=>?_⟩));exact hN _ _ ⟨p,1,5+j,u,d,0,f,rfl,s0.trans (au hp),ax,⟨by decide,by decide⟩,⟨by lia,by lia⟩,.inr (.inr ⟨by decide,by lia⟩),tI.hu,tI.hd,⟨by decide,by decide⟩,tI.hf⟩
 clear tI bU s0;rintro _ yR σ H1 ⟨r,e,t,u,d,m,f,rfl,s1,cf,sh⟩;subst yR;refine aC (λσ H2=>∃ (c:YC) (cs:List Int),σ=[some (.ref a),some (.ref r),some (.ref c),none,none,none,none,none,none,none]/\aj H1 H2/\H2 c=some (.lst (cs.map V.int))/\cs.length=t.toNat) (λN hN=>?_) ?_
 .rfl';refine⟨a,ns,rfl,s1.seq hS,hn,λn H2 s2=>?_⟩;exact⟨a,r,ns,e,t,u,d,m,f,n,rfl,(s1.trans s2).seq hS,hn,ah.of (s2 _ _ cf),sh,λc cs H3 s3 _ hc bq _=>hN _ _ ⟨c,cs,rfl,s2.trans s3,hc,bq⟩⟩
 rintro _ yR σ H2 ⟨c,cs,rfl,s2,n6,bq⟩;subst yR;have S2:=s1.trans s2;refine aC (λσ H3=>∃ (wr w:YC) (tb:Tb),σ=[some (.ref a),some (.ref r),some (.ref c),some (.ref wr),none,none,none,none,none,none]/\aj H2 H3/\H3 wr=some (.tup [.int e,.int t,.int (f * u),.int (f * d),.int m,.ref w])/\TabAt H3 w tb/\bV e t tb/\∀ r∈tb,aW r.2.1 r.2.2=false) (λN hN=>?_) ?_
 .rfl';refine⟨a,r,c,ns,cs,e,t,u,d,m,f,rfl,S2.seq hS,hn,ah.of (s2 _ _ cf),sh,ai.of n6,bq,λv w tb H3 s3 _ hW ay _ dA=>?_⟩;obtain⟨wr,rfl,h1,h2⟩:=hW;exact hN _ _ ⟨wr,w,tb,rfl,s3,h1,h2,ay,dA⟩
 rintro _ yR σ H3 ⟨wr,w,tb,rfl,s3,hwr,hT,hot,dA⟩;subst yR;have S3:=S2.trans s3;have et:=Ig sh;have bJ:df e t (f * u) (f * d) m:=⟨sh.he,sh.ht,aa4 (by have:=sh.hf;lia) sh.hu.1,aa4 (by have:=sh.hf;lia) sh.hd.1,sh.hm.1,sh.hm.2⟩
 obtain⟨he,ht,u0,d0,m0,me⟩:=id bJ;have i9:=Sk hot (by lia) (by lia);have tu:=s3 _ _ n6;have eT:=(s2.trans s3) _ _ cf;have tt:(cs.length:Int)=t:=by lia
 refine aC (λσ H4=>∃ lo:Int,σ=[some (.ref a),some (.ref r),some (.ref c),some (.ref wr),some (.int lo),none,none,none,none,none]/\H4=H3) (λN hN=>?_) ?_
 .rfl';refine ak (ah.of eT) rfl ⟨a,ns,_,_,_,rfl,S3.seq hS,hn,⟨by decide,by decide⟩,by decide,by lia,λk k0 k1=>?_⟩;refine bz (ai.of tu) (int_at (by lia) (by lia)) (ak (ah.of eT) rfl ⟨a,ns,_,_,_,rfl,S3.seq hS,hn,⟨by decide,by decide⟩,by decide,by decide,λj j0 j1=>?_⟩);exact⟨Dj (by have:=sh.hf;lia) (by lia),hN _ _ ⟨_,rfl,rfl⟩⟩
 rintro _ yR σ H4 ⟨lo,rfl,rfl⟩;subst yR;refine aC (λσ H5=>∃ hi:Int,σ=[some (.ref a),some (.ref r),some (.ref c),some (.ref wr),some (.int lo),some (.int hi),none,none,none,none]/\H5=H4) (λN hN=>?_) ?_
 .rfl';refine ak (ah.of eT) rfl ⟨a,ns,_,_,_,rfl,S3.seq hS,hn,⟨by decide,by decide⟩,by decide,by lia,λk k0 k1=>?_⟩;refine bz (ai.of tu) (int_at (by lia) (by lia)) (ak (ah.of eT) rfl ⟨a,ns,_,_,_,rfl,S3.seq hS,hn,⟨by decide,by decide⟩,by decide,by decide,λj j0 j1=>?_⟩);exact⟨Dj (by have:=sh.hf;lia) (by lia),hN _ _ ⟨_,rfl,rfl⟩⟩
 rintro _ yR σ H5 ⟨h0,rfl,rfl⟩;subst yR;refine aC (λσ H6=>∃ hi:Int,σ=[some (.ref a),some (.ref r),some (.ref c),some (.ref wr),some (.int lo),some (.int hi),none,none,none,none]/\H6=H5/\lo<hi) (λN hN=>?_) ?_
 .rfl';exact hN _ _ ⟨_,rfl,rfl,by split<;>lia⟩
 rintro _ yR σ H3 ⟨hi,rfl,rfl,hlh⟩;subst yR;refine aC (λσ H4=>∃ (x p:YC),σ=[some (.ref a),some (.ref r),some (.ref c),some (.ref wr),some (.int lo),some (.int hi),some (.ref x),none,none,none]/\aj H3 H4/\H3 p=none/\cb T.aL H4 x e t (f * u) (f * d) m p tb) (λN hN=>?_) ?_
 .rfl';exact⟨.ref wr,w,e,t,f * u,f * d,m,tb,rfl,⟨wr,rfl,hwr,hT⟩,bJ,hot,by lia,dA,λx p H4 s4 _ fp hB=>hN _ _ ⟨x,p,rfl,s4,fp,hB⟩⟩
 rintro _ yR σ H6 ⟨x,p,rfl,s4,fp,tJ⟩;subst yR;have S6:=S3.trans s4;have wg:fB H6 (.ref wr) w e t (f * u) (f * d) m tb:=⟨wr,rfl,s4 _ _ hwr,hT.same s4⟩
 have wp:w≠p:=λz=>by obtain⟨ks,mi,_⟩:=hT;rw[z,fp] at mi;cases mi
 generalize f * u=u at bJ tJ wg u0 hwr;generalize f * d=d at bJ tJ wg d0 hwr;refine aC (λσ H7=>∃ l zs,σ=[some (.ref a),some (.ref r),some (.ref c),some (.ref wr),some (.int lo),some (.int hi),some (.ref x),some (.ref l),none,none]/\aj H6 H7/\H6 l=none/\H7 l=some (.lst zs)/\bL H7 zs (b6 u d t m tb lo hi)) (λN hN=>?_) ?_
 .rfl';exact⟨x,p,e,t,u,d,m,lo,hi,tb,rfl,tJ,bJ,hot,by lia,λz=>absurd z (by lia),λ_ l zs H7 s7 f7 hl hz=>hN _ _ ⟨l,zs,rfl,s7,f7,hl,hz⟩⟩
 rintro _ yR σ H7 ⟨l,zs,rfl,s7,f7,wj,BJ⟩;subst yR;refine aC (λσ H8=>σ=[some (.ref a),some (.ref r),some (.ref c),some (.ref wr),some (.int lo),some (.int hi),some (.ref x),some (.ref l),none,none]/\aj H7 H8) (λN hN=>?_) ?_
 .rfl';refine⟨x,p,w,l,.ref wr,e,t,u,d,m,lo,hi,tb,zs,rfl,tJ.same s7,wg.same s7,bJ,hot,by lia,hlh,wj,BJ,λH8 s8=>?_⟩;rfl';exact hN _ _ ⟨rfl,s8⟩
 rintro _ yR σ H8 ⟨rfl,s8⟩;subst yR;refine aC (λσ H9=>∃ k,σ=[some (.ref a),some (.ref r),some (.ref c),some (.ref wr),some (.int lo),some (.int hi),some (.ref x),some (.ref l),some (.ref k),none]/\aj H8 H9/\H8 k=none/\H9 k=some (.lst zs)) (λN hN=>?_) ?_
 .rfl';exact⟨_,.inl (ai.of (s8 _ _ wj)),λk hk=>hN _ _ ⟨k,rfl,au hk,hk,ax⟩⟩
 rintro _ yR σ H9 ⟨k,rfl,s9,f9,fE⟩;subst yR;have vU:=s9 _ _ (s8 _ _ wj);have JJ:bL H9 zs (b6 u d t m tb lo hi):=BJ.imp λ_ _ r=>aR.same r (s8.trans s9);have zl:=BJ.len;have wl:(b6 u d t m tb lo hi).length<=200:=by unfold b6 fk;exact Yw (Y2 _ _) (Yw (Y2 _ _) (Yw (pairs_len ht.2 _) (by lia)))
 have lk:l≠k:=λz=>by have:=s8 _ _ wj;rw[z,f9] at this;cases this
 refine aC (λσ nF=>∃ vs,σ=[some (.ref a),some (.ref r),some (.ref c),some (.ref wr),some (.int lo),some (.int hi),some (.ref x),some (.ref l),some (.ref k),none]/\aj H6 nF/\nF l=some (.lst vs)/\bL nF vs (b6 u d t m tb lo hi++[(0,0)])/\nF k=some (.lst zs)/\bL nF zs (b6 u d t m tb lo hi)) (λN hN=>?_) ?_
 .rfl';refine⟨.inl ⟨rfl,_,ai.of vU⟩,a7,λb hb=>?_⟩;have ub:=au (o:=.tup [.int 0,.int 0]) hb;have JK:=ub _ _ vU;have tp:=n4 (o:=.lst (zs++[.ref b])) JK;refine⟨_,JK,ZE (by lia:_<=200) (by decide),hN _ _ ⟨_,rfl,jw f7 (s7.trans (s8.trans (s9.trans ub))),ax,az.snoc (JJ.imp λ_ _ r=>aR.tp (r.same ub) tp) ⟨b,rfl,tp _ _ ax⟩,by rw[aD (Zj lk)];exact ub _ _ fE,JJ.imp λ_ _ r=>aR.tp (r.same ub) tp⟩⟩
 rintro _ yR σ nF ⟨vs,rfl,BK,WH,WI,JL,JM⟩;subst yR;have JN:=tJ.same BK;have WJ:=wg.same BK;have WK:=S6.trans BK;refine aC (λσ nG=>σ=[some (.ref a),some (.ref r),some (.ref c),some (.ref wr),some (.int lo),some (.int hi),some (.ref x),some (.ref l),some (.ref k),none]/\aj nF nG) (λN hN=>?_) ?_
 .rfl';refine⟨x,p,e,t,u,d,m,lo,hi,tb,rfl,JN,bJ,hot,by lia,λz=>absurd z (by lia),λ_ l2 kW nG jc _ wk wm=>?_⟩;exact yk (wb wk wm) (wb (jc _ _ JL) (JM.imp λ_ _ r=>aR.same r jc)) (JI _) (by decide) ⟨false,rfl,hN _ _ ⟨rfl,jc⟩⟩
 rintro _ yR σ nG ⟨rfl,jc⟩;subst yR;have JO:=WK.trans jc;have JP:=JN.same jc;have WL:=WJ.same jc;have wk:=jc _ _ WH;have JQ:=jc _ _ JL;have JR:bL nG vs (b6 u d t m tb lo hi++[(0,0)]):=WI.imp λ_ _ r=>aR.same r jc;have wm:bL nG zs (b6 u d t m tb lo hi):=JM.imp λ_ _ r=>aR.same r jc;refine aC (λσ gf=>(∃ z1,σ=[some (.ref a),some (.ref r),some (.ref c),some (.ref wr),some (.int lo),some (.int hi),some (.ref x),some (.ref l),some (.ref k),z1])/\(∃ pL,cb T.aL gf x e t u d m p pL/\bV e t pL/\pL.length<=60)/\gf l=some (.lst vs)/\bL gf vs (b6 u d t m tb lo hi++[(0,0)])/\gf k=some (.lst zs)/\bL gf zs (b6 u d t m tb lo hi)) (λN hN=>?_) ?_
 .obtain⟨_,er,wq,kw,hkw,wt⟩:=id WL;cases er;rfl';refine ak (ah.of wq) (v:=.ref w) rfl ⟨w,rfl,kw,hkw,aN (λh0=>?_) λ_=>hN _ _ ⟨⟨none,rfl⟩,⟨tb,JP,hot,by lia⟩,wk,JR,JQ,wm⟩⟩;refine ak (ah.of wq) (v:=.ref w) rfl ⟨w,rfl,kw,hkw,λl1 ys h1 mi=>?_⟩;have u1:=au (o:=.lst ys) h1;have P0:bL nG ys (tb.map (·.1)):=wt.qN mi;have pl:=P0.len;have Ym:=wt.len;rw[Yq] at pl;refine ak (ah.of (u1 _ _ wq)) (v:=.ref w) rfl ⟨w,rfl,kw,u1 _ _ hkw,a,ns,13,10177,_,rfl,(JO.trans u1).seq hS,hn,⟨by decide,by decide⟩,by decide,by lia,λi i0 i1=>?_⟩;obtain⟨j,rfl⟩:=Int.eq_ofNat_of_zero_le i0;have hj:j<ys.length:=by lia
  have hv:=Ys hj;obtain⟨s0,JS,ka,WM,gE⟩:=P0.get hv;rw[YG] at JS;obtain⟨rr,hrr,rfl⟩:=Y6.mp JS;have pA:=YF hrr;obtain⟨⟨dx,hx⟩,kp,hkp,JT⟩:=id JP;obtain⟨vv,hvv,_⟩:=(JT.val rr.1).2 _ (oH hot.1 pA);obtain⟨vw,hvw,_⟩:=(wt.val rr.1).2 _ (oH hot.1 pA);refine bz (ai.of ax) (cZ hv) ?_;rw[WM];refine⟨_,_,u1 _ _ hx,rfl,ak (ah.of (u1 _ _ gE)) rfl (ak (ah.of (u1 _ _ gE)) rfl ?_)⟩;have kH:=u1 _ _ wk;have iq:=u1 _ _ JQ;have oR:bL _ vs (b6 u d t m tb lo hi++[(0,0)]):=JR.imp λ_ _ r=>aR.same r u1;have JU:bL _ zs (b6 u d t m tb lo hi):=wm.imp λ_ _ r=>aR.same r u1;have JV:=u1 _ _ gE;have JW:=u1 _ _ wq;have JX:=u1 _ _ hkw;have wu:=u1 _ _ hkp;have jx:=u1 _ _ hx;have WN:=(JO.trans u1).seq hS;have JY:=JT.imp λv a b z=>aK.same z u1;have JZ:=wt.imp λv a b z=>aK.same z u1;generalize upd nG l1 (.lst ys)=G1 at kH iq oR JU JV JW JX wu jx WN JY JZ ⊢;refine⟨x,p,e,t,u,d,m,rr.1.1,rr.1.2,kp,rfl,⟨⟨dx,jx⟩,wu⟩,λz=>absurd (hvv.symm.trans z) (λz=>nomatch z),λv _ gf sb WO=>?_⟩;have pM:Fr G1 gf:=SameBut.fr sb wu;have J0:=cb.WE (s:=rr.1) ⟨dx,jx⟩ wu JY sb WO;have J1:=pM _ (.tup _) (λ_ z=>nomatch z) JW;have WQ:=pM _ (.tup _) (λ_ z=>nomatch z) JV;have BL:=sb w _ wp JX;have WR:=JZ.imp λv a b z=>z.fr pM;refine ak (ah.of J1) (v:=.ref w) rfl ⟨w,rfl,.inr ⟨kw,.inl BL⟩,ka,rfl,kw,BL,bB rr.1.1 rr.1.2,WQ,vw,hvw,?_⟩;have mv:Fr gf (upd gf w (.dT (fL kw (bB rr.1.1 rr.1.2)))):=Ff BL;have J5:upd gf w (.dT (fL kw (bB rr.1.1 rr.1.2))) w=some (.dT (fL kw (bB rr.1.1 rr.1.2))):=ax;have J6:TabAt (upd gf w (.dT (fL kw (bB rr.1.1 rr.1.2)))) p (lA tb rr.1):=J0.tb.fr mv λ_ z=>by rw[aD (Zj wp)];exact z
  generalize upd gf w (.dT (fL kw (bB rr.1.1 rr.1.2)))=BM at mv J5 J6 ⊢;have J9:tG G1 BM:=λa xs z=>mv _ (.tup _) (λ_ z=>nomatch z) (pM _ (.tup _) (λ_ z=>nomatch z) z);have BN:=J0.now mv J6;have WS:fB BM (.ref wr) w e t u d m (lA tb rr.1):=⟨wr,rfl,mv _ (.tup _) (λ_ z=>nomatch z) J1,_,J5,a8.drop (s:=rr.1) (WR.imp λv a b z=>z.fr mv)⟩
  have pN:bV e t (lA tb rr.1):=hot.drop;have n2:(lA tb rr.1).length<=tb.length:=Y2 _ _;refine⟨x,p,e,t,u,d,m,lo,hi,_,rfl,BN,bJ,pN,by lia,λz=>absurd z (by lia),λ_ l3 A8 WT BO _ WU WV=>?_⟩;refine⟨x,p,w,l3,.ref wr,e,t,u,d,m,lo,hi,_,A8,rfl,BN.same BO,WS.same BO,bJ,pN,by lia,hlh,WU,WV,λYn WW=>?_⟩;have tK:=BO.trans WW;exact hN _ _ ⟨⟨_,rfl⟩,⟨_,BN.same tK,pN,by lia⟩,tK _ _ (mv _ (.lst _) (λ_ z=>nomatch z) (pM _ (.lst _) (λ_ z=>nomatch z) kH)),oR.imp λ_ _ r=>aR.same (aR.tp r J9) tK,tK _ _ (mv _ (.lst _) (λ_ z=>nomatch z) (pM _ (.lst _) (λ_ z=>nomatch z) iq)),JU.imp λ_ _ r=>aR.same (aR.tp r J9) tK⟩
 rintro _ yR σ gf ⟨⟨z1,rfl⟩,⟨pL,Ka,pN,cc⟩,WX,WY,WZ,W0⟩;subst yR;rfl';refine⟨a7,λb hb=>⟨by decide,λp1 h1=>?_⟩⟩;have ub:=au (o:=.tup [.int 0,.int 0]) hb;have u1:=ub.trans (au (o:=.lst [.ref b]) h1);refine⟨_,u1 _ _ WZ,_,ax,Yw (by rw[YY];lia:_<=201) (by decide),λp2 h2=>?_⟩;have u2:=u1.trans (au (o:=.lst (zs++[.ref b])) h2);have b2:aR (upd (upd (upd gf b (.tup [.int 0,.int 0])) p1 (.lst [.ref b])) p2 (.lst (zs++[.ref b]))) (.ref b) (0,0):=⟨b,rfl,(au h2) _ _ ((au h1) _ _ ax)⟩
 refine yk (wb (u2 _ _ WX) (WY.imp λ_ _ r=>aR.same r u2)) (wb ax (az.snoc (W0.imp λ_ _ r=>aR.same r u2) b2)) (JI _) (by decide) ?_;rfl';refine⟨x,p,e,t,u,d,m,_,_,pL,rfl,Ka.same u2,bJ,pN,cc,by lia,λBM W3=>?_⟩;rfl';exact⟨x,p,e,t,u,d,m,_,_,pL,rfl,(Ka.same u2).same W3,bJ,pN,cc,by lia,λWT _=>q _⟩
end
theorem W4{l:ad2}{w:ZZ}{K:Yp}{h:aaW}{mg:Str->Option Yy}{fa:YC}(X:K.In h)(G:h.Ns YW mg)(W5:mg "law" = some (.ref fa))
 {nq:YC}
 {l5:YC}
 {jU:YC}
 {gD:YC}
 {cK:YC}
 {vE:YC}
 {dH:YC}
 {bM:YC}
 {aL:YC}
 {W6:ClassData}
 {W7:Tok}
 {W8:Tok}
 {W9:Tok}
 (Xa:Y5 K YW "GazeError" = some (some (.ref nq)))
 (Xb:Y5 K YW "NoBoard" = some (some (.ref l5)))
 (Xc:Y5 K YW "NoTelling" = some (some (.ref jU)))
 (Xd:Y5 K YW "NoClaim" = some (some (.ref gD)))
 (Xe:Y5 K YW "NoEvent" = some (some (.ref cK)))
 (Xf:Y5 K YW "Event" = some (some (.ref vE)))
 (Xg:Y5 K YW "Spanned" = some (some (.ref dH)))
 (Xi:Y5 K YW "Rose" = some (some (.ref bM)))
 (Xj:Y5 K YW "Board" = some (some (.ref aL)))
 (rL:Fb K "is_crossed" "is_crossed" zo (aO K "is_crossed"))
 (rM:Fb K "meet" "meet" zp (aO K "meet"))
 (rN:Fb K "common" "common" zr (aO K "common"))
 (rO:Fb K "has_part" "has_part" zt (aO K "has_part"))
 (iX:Fb K "check_claim" "check_claim" zu (aO K "check_claim"))
 (rP:Fb K "stretches_of" "stretches_of" zv (aO K "stretches_of"))
 (lO:Fb K "paces" "paces" zw (aO K "paces"))
 (lP:Fb K "wanted" "wanted" zx (aO K "wanted"))
 (rQ:Fb K "parts_at" "parts_at" zy (aO K "parts_at"))
 (kQ:Fb K "__init__" "Spanned.__init__" zz λf=>fi K dH "__init__" f/\afS K (.ref dH) (.type "type") "__init__" = some (.val (.ref f)))
 (jS:Fb K "far" "Spanned.far" zA λf=>fi K dH "far" f/\fi K bM "far" f)
 (kR:Fb K "__init__" "Rose.__init__" zB (fi K bM "__init__"))
 (lQ:Fb K "ways" "Rose.ways" zC (fi K bM "ways"))
 (jT:Fb K "breaks" "Rose.breaks" zD (fi K bM "breaks"))
 (rR:Fb K "number_in" "number_in" zE (aO K "number_in"))
 (rS:Fb K "moved" "moved" zF (aO K "moved"))
 (rT:Fb K "narrowed" "narrowed" zG (aO K "narrowed"))
 (rV:Fb K "stretches_at" "stretches_at" zH (aO K "stretches_at"))
 (rW:Fb K "tube" "tube" zI (aO K "tube"))
 (rX:Fb K "course_in" "course_in" zJ (aO K "course_in"))
 (rY:Fb K "lesser" "lesser" zK (aO K "lesser"))
 (rZ:Fb K "lifted" "lifted" zL (aO K "lifted"))
 (se:Fb K "ceilings" "ceilings" zM (aO K "ceilings"))
 (sf:Fb K "crossing" "crossing" zN (aO K "crossing"))
 (si:Fb K "marks_of" "marks_of" zO (aO K "marks_of"))
 (sk:Fb K "marks_without" "marks_without" zP (aO K "marks_without"))
 (so:Fb K "groups_of" "groups_of" zQ (aO K "groups_of"))
 (sq:Fb K "clashes" "clashes" zR (aO K "clashes"))
 (iY:Fb K "without" "without" zS (aO K "without"))
 (lR:Fb K "eyes_of" "eyes_of" zT (aO K "eyes_of"))
 (iZ:Fb K "put_aside" "put_aside" zU (aO K "put_aside"))
 (ib:Fb K "branch" "branch" zV (aO K "branch"))
 (ic:Fb K "paper" "paper" zW (aO K "paper"))
 (x_ask:Fb K "ask" "ask" zX (aO K "ask"))
 (i3:Fb K "seek" "seek" zY (aO K "seek"))
 (i4:Fb K "verdict" "verdict" zZ (aO K "verdict"))
 (sr:Fb K "is_sure" "is_sure" z5 (aO K "is_sure"))
 (sx:Fb K "lies_within" "lies_within" z6 (aO K "lies_within"))
 (fW:Fb K "windows" "windows" z7 (aO K "windows"))
 (nj:Fb K "__init__" "Board.__init__" z8 (fi K aL "__init__"))
 (lS:Fb K "has_eye" "Board.has_eye" z9 (fi K aL "has_eye"))
 (ie:Fb K "has_turn" "Board.has_turn" Aa (fi K aL "has_turn"))
 (lT:Fb K "tell" "Board.tell" Ab (fi K aL "tell"))
 (lU:Fb K "hush" "Board.hush" Ac (fi K aL "hush"))
 (kS:Fb K "tellings" "Board.tellings" Ad (fi K aL "tellings"))
 (lV:Fb K "check_spot" "Board.check_spot" Ae (fi K aL "check_spot"))
 (lW:Fb K "check_word" "Board.check_word" Af (fi K aL "check_word"))
 (sy:Fb K "_law_draw" "_law_draw" Ag (aO K "_law_draw"))
 (sA:Fb K "_law_base" "_law_base" Ah (aO K "_law_base"))
 (lX:Fb K "_law_whole" "_law_whole" Ai (aO K "_law_whole"))
 (sC:Fb K "_law_within" "_law_within" Aj (aO K "_law_within"))
 (sD:Fb K "_law_shape" "_law_shape" Ak (aO K "_law_shape"))
 (sE:Fb K "_law_true_course" "_law_true_course" Al (aO K "_law_true_course"))
 (sF:Fb K "_law_word" "_law_word" Am (aO K "_law_word"))
 (sG:Fb K "_law_world" "_law_world" An (aO K "_law_world"))
 (sH:Fb K "_law_board" "_law_board" Ao (aO K "_law_board"))
 (sI:Fb K "_law_liars" "_law_liars" Ap (aO K "_law_liars"))
 (sJ:Fb K "_law_fits" "_law_fits" Aq (aO K "_law_fits"))
 (sL:Fb K "_law_common" "_law_common" Ar (aO K "_law_common"))
 (i5:Fb K "_law_empty" "_law_empty" As (aO K "_law_empty"))
 (lY:Fb K "_law_climb" "_law_climb" Au (aO K "_law_climb"))
 (i6:Fb K "_law_mark" "_law_mark" Av (aO K "_law_mark"))
 (ig:Fb K "_law_branch" "_law_branch" Aw (aO K "_law_branch"))
 (kT:Fb K "_law_clash" "_law_clash" Ax (aO K "_law_clash"))
 (gC:Fb K "_law_refuted" "_law_refuted" Ay (aO K "_law_refuted"))
 (sM:Fb K "_law_refutes" "_law_refutes" Az (aO K "_law_refutes"))
 (sN:Fb K "_law_steep" "_law_steep" AA (aO K "_law_steep"))
 (sO:Fb K "_law_risen" "_law_risen" AB (aO K "_law_risen"))
 (lZ:Fb K "_law_sure" "_law_sure" AD (aO K "_law_sure"))
 (l4:Fb K "_law_unsure" "_law_unsure" AE (aO K "_law_unsure"))
 (sP:Fb K "_law_pairs" "_law_pairs" AF (aO K "_law_pairs"))
 (i7:Fb K "_law_asked_of" "_law_asked_of" AG (aO K "_law_asked_of"))
 (sQ:Fb K "_law_refused" "_law_refused" AH (aO K "_law_refused"))
 (nk:Fb K "law" "law" AI (aO K "law"))
 (Xk:Y5 K YW "all" = some none)
 (Xl:Y5 K YW "any" = some none)
 (Xm:Y5 K YW "bool" = some none)
 (Xn:Y5 K YW "enumerate" = some none)
 (Xo:Y5 K YW "int" = some none)
 (Xq:Y5 K YW "isinstance" = some none)
 (Xr:Y5 K YW "len" = some none)
 (Xs:Y5 K YW "list" = some none)
 (Xt:Y5 K YW "max" = some none)
 (Xu:Y5 K YW "min" = some none)
 (Xv:Y5 K YW "range" = some none)
 (Xw:Y5 K YW "reversed" = some none)
 (Xx:Y5 K YW "set" = some none)
 (Xy:Y5 K YW "sorted" = some none)
 (Xz:Y5 K YW "sum" = some none)
 (XA:Y5 K YW "tuple" = some none)
 (XB:Y5 K YW "zip" = some none)
 (HS:dj K dH)
 (HU:Y9 K (.ref dH) "first" = some none)
 (HV:Y9 K (.ref dH) "last" = some none)
 (HW:abM K dH=true) (XD:aaa K (.ref dH)=true)
 (de:dj K bM)
 (ph:Y9 K (.ref bM) "first" = some none)
 (l6:Y9 K (.ref bM) "last" = some none)
 (sS:Y9 K (.ref bM) "low" = some none)
 (sT:Y9 K (.ref bM) "high" = some none)
 (sU:abM K bM=true) (XE:aaa K (.ref bM)=true)
 (bG:dj K aL)
 (sV:Y9 K (.ref aL) "eyes" = some none)
 (l8:Y9 K (.ref aL) "turns" = some none)
 (vF:Y9 K (.ref aL) "up" = some none)
 (vG:Y9 K (.ref aL) "down" = some none)
 (sW:Y9 K (.ref aL) "most" = some none)
 (md:Y9 K (.ref aL) "told" = some none)
 (AX:abM K aL=true) (XF:aaa K (.ref aL)=true)
 (XG:ac9 K (.ref dH) "__getattribute__" = some (some (.builtin "type.__getattribute__"))) (XH:afR K dH (.type "type")=true)
 (sY:XC K l5)
 (sZ:XC K jU)
 (vH:XC K gD)
 (nr:XC K cK)
 (XI:aeN K cK=some W6)
 (XJ:acT K (.ref cK)=some (.type "type"))
 (XM:abP K (.ref cK) (.type "BaseException")=some true)
 (XN:abP K (.ref cK) (.ref cK)=some true)
 (XO:Zq K (.ref cK) (.ref nq)=some true)
 (XQ:Zq K (.ref cK) (.ref gD)=some false)
 (XR:Y5 K YW "LAST_TURN" = some (some (.int 11 W7)))
 (XS:Y5 K YW "EYES_AT_MOST" = some (some (.int 7 W8)))
 (XT:Y5 K YW "TURNS_AT_MOST" = some (some (.int 12 W9)))
 : ∃ fd:abu,(∀ (s:YB) (v:Yy),ae6 s fd ⟨[v],[]⟩ [("_law_script",v)])/\∀ base:aaW,K.In base->base.Ns YW mg->dX l.prog w K mg base (dm l.prog w) 37 fa fd ["_law_script"] (wc K):=by
 obtain⟨rL⟩:=rL.fn X G G7;obtain⟨rM⟩:=rM.fn X G vo;obtain⟨rN⟩:=rN.fn X G rn;obtain⟨rO⟩:=rO.fn X G G8;obtain⟨iX⟩:=iX.fn X G AJ;obtain⟨rP⟩:=rP.fn X G G9;obtain⟨lO⟩:=lO.fn X G AK;obtain⟨lP⟩:=lP.fn X G Ha;obtain⟨rQ⟩:=rQ.fn X G Hb;obtain⟨kQ,Kb,XU⟩:=Fb.fp kQ Hc;obtain⟨jS,Kc,Kd⟩:=Fb.fp jS Hd;obtain⟨kR,Ke⟩:=kR.fm He;obtain⟨lQ,Kf⟩:=lQ.fm rq;obtain⟨jT,Kg⟩:=jT.fm Hf;obtain⟨rR⟩:=rR.fn X G Hg;obtain⟨rS⟩:=rS.fn X G vq;obtain⟨rT⟩:=rT.fn X G m8;obtain⟨rV⟩:=rV.fn X G Hh;obtain⟨rW⟩:=rW.fn X G vt;obtain⟨rX⟩:=rX.fn X G o8;obtain⟨rY⟩:=rY.fn X G Hi;obtain⟨rZ⟩:=rZ.fn X G Hj;obtain⟨se⟩:=se.fn X G m9;obtain⟨sf⟩:=sf.fn X G rA;obtain⟨si⟩:=si.fn X G Hk;obtain⟨sk⟩:=sk.fn X G Hl;obtain⟨so⟩:=so.fn X G Hm;obtain⟨sq⟩:=sq.fn X G kP;obtain⟨iY⟩:=iY.fn X G Hn;obtain⟨lR⟩:=lR.fn X G Ho;obtain⟨iZ⟩:=iZ.fn X G rB;obtain⟨ib⟩:=ib.fn X G Hq;obtain⟨ic⟩:=ic.fn X G nc;obtain⟨x_ask⟩:=x_ask.fn X G ng;obtain⟨i3⟩:=i3.fn X G rC;obtain⟨i4⟩:=i4.fn X G rD;obtain⟨sr⟩:=sr.fn X G Hr;obtain⟨sx⟩:=sx.fn X G Hs;obtain⟨fW⟩:=fW.fn X G rE;obtain⟨nj,Kh⟩:=nj.fm Ht;obtain⟨lS,Ki⟩:=lS.fm Hu;obtain⟨ie,Kj⟩:=ie.fm Hv;obtain⟨lT,Kk⟩:=lT.fm Hw;obtain⟨lU,Kl⟩:=lU.fm Hy;obtain⟨kS,Km⟩:=kS.fm Hz;obtain⟨lV,Kn⟩:=lV.fm HC;obtain⟨lW,Ko⟩:=lW.fm HD;obtain⟨sy⟩:=sy.fn X G HE;obtain⟨sA⟩:=sA.fn X G AL;obtain⟨lX⟩:=lX.fn X G HF;obtain⟨sC⟩:=sC.fn X G HG;obtain⟨sD⟩:=sD.fn X G fU;obtain⟨sE⟩:=sE.fn X G rF;obtain⟨sF⟩:=sF.fn X G nh;obtain⟨sG⟩:=sG.fn X G iW;obtain⟨sH⟩:=sH.fn X G vx;obtain⟨sI⟩:=sI.fn X G HH;obtain⟨sJ⟩:=sJ.fn X G AM;obtain⟨sL⟩:=sL.fn X G ni;obtain⟨i5⟩:=i5.fn X G HI;obtain⟨lY⟩:=lY.fn X G AN;obtain⟨i6⟩:=i6.fn X G HJ;obtain⟨ig⟩:=ig.fn X G HK;obtain⟨kT⟩:=kT.fn X G vy;obtain⟨gC⟩:=gC.fn X G o9;obtain⟨sM⟩:=sM.fn X G rG;obtain⟨sN⟩:=sN.fn X G rH;obtain⟨sO⟩:=sO.fn X G AO;obtain⟨lZ⟩:=lZ.fn X G rJ;obtain⟨l4⟩:=l4.fn X G vz;obtain⟨sP⟩:=sP.fn X G vA;obtain⟨i7⟩:=i7.fn X G pd;obtain⟨sQ⟩:=sQ.fn X G rK;obtain⟨nk⟩:=nk.fn X G fV;cases W5.symm.trans nk.m;exact⟨_,nk.bt fV,λ_ _ _=>WG (⟨rL,rM,rN,rO,iX,rP,lO,lP,rQ,kQ,jS,kR,lQ,jT,rR,rS,rT,rV,rW,rX,rY,rZ,se,sf,si,sk,so,sq,iY,lR,iZ,ib,ic,x_ask,i3,i4,sr,sx,fW,nj,lS,ie,lT,lU,kS,lV,lW,sy,sA,lX,sC,sD,sE,sF,sG,sH,sI,sJ,sL,i5,lY,i6,ig,kT,gC,sM,sN,sO,lZ,l4,sP,i7,sQ,nk,Y8 X G Xk,Y8 X G Xl,Y8 X G Xm,Y8 X G Xn,Y8 X G Xo,Y8 X G Xq,Y8 X G Xr,Y8 X G Xs,Y8 X G Xt,Y8 X G Xu,Y8 X G Xv,Y8 X G Xw,Y8 X G Xx,Y8 X G Xy,Y8 X G Xz,Y8 X G XA,Y8 X G XB,nq,ZS X G Xa,l5,ZS X G Xb,jU,ZS X G Xc,gD,ZS X G Xd,cK,ZS X G Xe,vE,ZS X G Xf,dH,ZS X G Xg,bM,ZS X G Xi,aL,ZS X G Xj,HS,HU,HV,⟨HW,Kb.1,Kb.2,XD⟩,⟨Kc.1,Kc.2,jS.F.kp⟩,de,ph,l6,sS,sT,⟨sU,Ke.1,Ke.2,XE⟩,⟨Kd.1,Kd.2,jS.F.kp⟩,⟨Kf.1,Kf.2,lQ.F.kp⟩,⟨Kg.1,Kg.2,jT.F.kp⟩,bG,sV,l8,vF,vG,sW,md,⟨AX,Kh.1,Kh.2,XF⟩,⟨Ki.1,Ki.2,lS.F.kp⟩,⟨Kj.1,Kj.2,ie.F.kp⟩,⟨Kk.1,Kk.2,lT.F.kp⟩,⟨Kl.1,Kl.2,lU.F.kp⟩,⟨Km.1,Km.2,kS.F.kp⟩,⟨Kn.1,Kn.2,lV.F.kp⟩,⟨Ko.1,Ko.2,lW.F.kp⟩,⟨XG,XH,XU,kQ.F.kp⟩,sY,sZ,vH,nr,Na XI XJ XN XM,XO,XQ,⟨_,ZS X G XR⟩,⟨_,ZS X G XS⟩,⟨_,ZS X G XT⟩⟩:Tx K mg)⟩
theorem walk{l:ad2}{q:Zo}{loose:List Str}{XP:(Str->Option Yy)->aaW->Prop}{YP:ZZ->aaW->Prop}{d:DefRec}{K:Params->Yp}(hn:l.most=some 63)(XW:d.params.defaults=[])
 (hY:∀ (w:ZZ) (h:aaW),YP w h->(K w.params).In h)
 (F:∀ (w:ZZ) (mg:Str->Option Yy) (fa:YC) (h:aaW),(K w.params).In h->h.Ns YW mg->mg d.name=some (.ref fa) ->
   ∃ fd:abu,(∀ (s:YB) (u:Yy),ae6 s fd ⟨[u],[]⟩ [("_law_script",u)])/\∀ base:aaW,(K w.params).In base->base.Ns YW mg->dX l.prog w (K w.params) mg base (dm l.prog w) 37 fa fd ["_law_script"] (wc (K w.params))) :
 agi q loose XP YP l.row.toRowW d [] (λf vs=>PySem.call f vs) :=
 Gz.Ot (k:=37) (x := "_law_script") (CX:=λw=>dm l.prog w) (sp:=λw=>wc (K w.params)) hn XW ⟨rfl,by decide,by decide⟩ hY F (λ_ _ a ns hl hS=>⟨a,ns,rfl,hS,hl,λ_=>rfl⟩) λ_ _ _ _ _ z=>Mx z
end zm
local macro_rules | `(tactic| walk_at "gzin") => `(tactic| first | (show _ = _; k_is) | (refine' And.intro ?y7 ?y8; (case y7 => walk_at "gzin"); (case y8 => walk_at "gzin")))
local macro_rules | `(tactic| walk_at "f") => `(tactic| (refine' Gz.Fb.mk ?y1 ?y2 ?y3 ?y4; (case y1 => first | (show _ = _; k_is) | (refine' ⟨?y5, ?y6⟩; (case y5 => k_is); (case y6 => k_is))); (case y2 => k_is); (case y3 => k_is); (case y4 => k_is)))
local macro_rules | `(tactic| walk_at "gzfi") => `(tactic| (refine' Gz.Fb.mk ?y1 ?y2 ?y3 ?y4; (case y1 => walk_at "gzin"); (case y2 => k_is); (case y3 => k_is); (case y4 => k_is)))
local macro_rules | `(tactic| walk_at "l") => `(tactic| (refine' L2.dj.mk ?_ ?_ ?_ ?_ <;> k_is))
local macro_rules | `(tactic| walk_at "x") => `(tactic| (refine' Gz.XC.mk ?y1 ?y2 ?y3 ?y4 ?y5 ?y6; (case y1 => k_exc); (case y2 => k_is); (case y3 => k_is); (case y4 => k_is); (case y5 => k_is); (case y6 => k_is)))
namespace PySem.W.Fast
def tw13810951525681714505:=0
def tw3915784157684719512:=0
def tw16535001858272885976:=0
def tw13272338674644197265:=0
def tw1135740559468625915:=0
def tw10548250659376465411:=0
def tw9955622776799898705:=0
def tw8502745037907672930:=0
def tw15434743300123041503:=0
def tw9206644675439042226:=0
def tw17091637953149819858:=0
def tw7278598388075604924:=0
def tw385693625286118577:=0
def tw8651339337647908174:=0
def tw7353358478707625433:=0
def tw15370139501990462576:=0
def tw13252759471891147842:=0
def tw9534441561151981320:=0
def tw2501611561182267981:=0
def tw10165051808982798221:=0
def tw13854115119512604918:=0
def tw15288351442979460515:=0
def tw18408546496848092120:=0
def tw7227338364561373936:=0
def tw10889459958353320852:=0
def tw13481297132897078427:=0
def tw8958380585117636014:=0
def tw3106497642139047198:=0
def tw17651825547489544121:=0
def tw4933350742340866602:=0
def tw2141659192877725648:=0
def tw9536934963366403776:=0
def tw9440687333274348650:=0
def tw17279155966363897272:=0
def tw9064156987223898602:=0
def tw192332591688077603:=0
def tw15593029245190525361:=0
def tw3293847179916278213:=0
def tw14105521087303628988:=0
def tw1918409486445979629:=0
def tw58139770238406044:=0
def tw13338801795954457881:=0
def tw7005034609279962453:=0
def tw5876320139086929756:=0
def tw11055876795359559287:=0
def tw12465116275986307101:=0
def tw8456537604799009326:=0
def tw254711017280280964:=0
def tw8077805769464411752:=0
def tw10441612640202844151:=0
def tw12435768837994869286:=0
def tw10048185523825285151:=0
def tw12943108225544169150:=0
def tw15524014968749814609:=0
def tw12806131289166782529:=0
def tw737015916590060008:=0
def tw5753272840202016037:=0
def tw15280499526844053355:=0
def tw2749538102658187323:=0
def tw2795087919225315830:=0
def tw3026325277504612846:=0
def tw2283585507034359280:=0
def tw11753605028384051337:=0
def tw6425448551639045750:=0
def tw6523451122098817588:=0
def tw2475750953635684840:=0
def tw16933550307247470757:=0
def tw286189478401152600:=0
def tw2330352647527207481:=0
def tw12374363390091243928:=0
def tw7096872527950319553:=0
def tw16255599186039066364:=0
def tw1247626968164780492:=0
def tw14168198944109843360:=0
def tw13784321567095152871:=0
def tw9847563201057107000:=0
def tw9405702448512095921:=0
def tw2782854174944889479:=0
def tw9404747515310196799:=0
def tw10414378719778669992:=0
def tw17893446612388472918:=0
def tw1404520130848725003:=0
def tw6195948014789631484:=0
def tw8130900621970422112:=0
def tw10306511697526556210:=0
def tw15637806739838852326:=0
def tw12660256136981160643:=0
def tw10585634028185598223:=0
def tw14548753428016430451:=0
def tw6643770505088601609:=0
def tw17083994617921562968:=0
def tw10832082592457098133:=0
def tw10739847654726747613:=0
def tw1299625356487545451:=0
def tw5020249526423419434:=0
def tw9715141164515854471:=0
def tw2799188034525030035:=0
def tw10219341408233267635:=0
def tw8077743521989741160:=0
def tw13781783508007473027:=0
def tw10107601912635138117:=0
def tw8099377325380225496:=0
def tw12653030735839702312:=0
def tw15048330270682211161:=0
def tw2852103037135216194:=0
def tw485663887934437333:=0
def tw4298406182270951018:=0
def tw13999624877308234362:=0
def tw15366601989367393825:=0
def tw11288309697820028328:=0
def tw908396540068905013:=0
def tw883988923292245588:=0
def tw16156045247450827214:=0
def tw3065115656621771656:=0
def tw4089358661682466307:=0
def tw8977432636693284815:=0
def tw8425743281329205155:=0
def tw9200879138478767048:=0
def tw17655480749450437057:=0
def tw15208603315815830904:=0
def tw595944248487444968:=0
def tw1925776682189555776:=0
def tw16719350346200989348:=0
def tw2381315631147041446:=0
def tw9713739919113365662:=0
def tw11350696563021622811:=0
def tw4653227471652031288:=0
def tw11643260071503002995:=0
def tw17112222139478533962:=0
def tw9528941592685562126:=0
def tw7338239592082426346:=0
def tw13536476466105723236:=0
def tw9811079649081874158:=0
def tw4179765810103604124:=0
def tw14148473660871819941:=0
def tw5643305288016838934:=0
def tw1796664133008045386:=0
def tw11499299987182185018:=0
def tw17289577289367434725:=0
def tw11681789807770748160:=0
def tw5666738782329562159:=0
def tw6928968505254713256:=0
def tw7141095452190762265:=0
def tw11373013424986426332:=0
def tw13679554035561224605:=0
def tw12408027493504103329:=0
def tw16900197645281836881:=0
def tw6237742147416955969:=0
def tw18014124401308245913:=0
def tw7479420891741934068:=0
def tw8567723097380375370:=0
def tw7315631669409672706:=0
def tw6400270287692728235:=0
def tw5183536236268442327:=0
def tw9862363192789566149:=0
def tw10636737097078253105:=0
def tw2879482323945969861:=0
def tw17334715644371342636:=0
def tw2072272265322997998:=0
def tw4727331434955470229:=0
def tw5095769757737535196:=0
def tw8487841519218014685:=0
def tw5090550594943874370:=0
def tw12925069453923895067:=0
def tw16948742212590098828:=0
def tw14803934297977801408:=0
def tw16030112129541380386:=0
def tw13338131741551060557:=0
def tw943065266260149149:=0
def tw11487803647297255994:=0
def tw3476147485877823728:=0
def tw9980562989903943047:=0
def tw11187682737440092968:=0
def tw12203006309134014223:=0
def tw14468561692508416732:=0
def tw6686048667300204970:=0
def tw16707346734546145358:=0
def tw8087003660269622939:=0
def tw9227681968799223952:=0
def tw7859130670074085498:=0
def tw10590116132825916483:=0
def tw10647607437662230756:=0
def tw9854108428026051091:=0
def tw18404724993468611651:=0
def tw12057003633964793580:=0
def tw10609489908426694342:=0
def tw5380999202859011309:=0
def tw7562641346632069321:=0
def tw877489139256304403:=0
def tw15273574728728815891:=0
def tw1188943150573501389:=0
def tw18421439472125220278:=0
def tw12355635092381587192:=0
def tw2188458522295064390:=0
def tw9368419338397643029:=0
def tw4935908713296703554:=0
def tw727656946803142016:=0
def tw12914296928659727380:=0
def tw6452635023544526908:=0
def tw1570286513041580123:=0
def tw63981250179580194:=0
def tw15032484316344640162:=0
def tw14791301047040718385:=0
def tw16336103115320057117:=0
def tw157864785416980620:=0
def tw13632111075873590208:=0
def tw15175776613458339766:=0
def tw6669667035473884958:=0
def tw12433815198231309700:=0
def tw14447540257783340105:=0
def tw5661410789120272995:=0
def tw17734069763503028717:=0
def tw5069853478243364400:=0
def tw15501232819065381547:=0
def tw1461148442430305012:=0
def tw8305809331700029403:=0
def tw9358855286057172545:=0
def tw5495459893387782141:=0
def tw10944799901102759640:=0
def tw12460450231582958767:=0
def tw11307928701576155969:=0
def tw9319591936953766584:=0
def tw14823254200444126787:=0
def tw4003180815722756642:=0
def tw4060873270075890761:=0
def tw7432023219382530541:=0
def tw11983954393829708293:=0
def tw2411436580499956915:=0
def tw4900756534588034997:=0
def tw14311967135235595899:=0
def tw4150090701418372490:=0
def tw1878646696638365846:=0
def tw16417642547369097858:=0
def tw12111961394866101521:=0
def tw15841107764790946452:=0
def tw9875758002474082079:=0
def tw20403769736745757:=0
def tw8165274018553803100:=0
def tw5294743626477364256:=0
def tw13808360579285686711:=0
def tw1461715516279099587:=0
def tw7026775960508463709:=0
def tw8039347214087477372:=0
def tw4367179586198959434:=0
def tw7415030096382279338:=0
def tw8392108418813859205:=0
def tw5907699236564157276:=0
def tw16506650257462666870:=0
def tw2135306157430050045:=0
def tw15670588404960030716:=0
def tw374147588458521167:=0
def tw3154648057690960315:=0
def tw1790764479606781676:=0
def tw11879105776694172117:=0
def tw1058506245171542859:=0
def tw12550869786050382603:=0
def tw8356358753850896440:=0
def tw7904475995950395890:=0
def tw6058988099064102007:=0
def tw5017356531755835807:=0
def tw11823893968909880230:=0
def tw1711845793396733105:=0
def tw7464570400244064902:=0
def tw11904907393489711811:=0
def tw514407961756819862:=0
def tw13364015487597738245:=0
def tw2792426066616414488:=0
def tw12351174423179961863:=0
def tw5921966789975877518:=0
def tw6433555022833519692:=0
def tw2267793618614164157:=0
def tw10717973217533870248:=0
def tw12267976456839077653:=0
def tw5278237019501776575:=0
def tw11240064651727170840:=0
def tw8175303751750373937:=0
def tw2028695134313965832:=0
def tw6161871911586272509:=0
def tw17924486674646030137:=0
def tw4765819616675600167:=0
def tw3490193767386205866:=0
def tw12742136446787827661:=0
def tw7659917523210320173:=0
def tw15929298773290606525:=0
def tw6601584455686300486:=0
def tw17207076671762937898:=0
def tw5415949233268844595:=0
def tw12674688971127847173:=0
def tw2219580046135809158:=0
def tw10084804913731029312:=0
def tw3071832904550095726:=0
def tw13510238058982053704:=0
def tw16908228134704161881:=0
def tw5730623188815825660:=0
def tw18233353609285261653:=0
def tw14785608470016000786:=0
def tw6479974620575288739:=0
def tw8620654251115499831:=0
def tw470949311314430253:=0
def tw14950981931323835552:=0
def tw6189988403362433452:=0
def tw12337711117306978939:=0
def tw10867757567976598554:=0
def tw6152394269639091000:=0
def tw1944531172709604879:=0
def tw1208262856922054986:=0
def tw5345491741314723170:=0
def tw16194333968800682126:=0
def tw4401718503409217181:=0
def tw3498916151987941550:=0
def tw10287156391345351886:=0
def tw15710442944322531371:=0
def tw10649561528168277379:=0
def tw2294652300568268674:=0
def tw11495472073023710877:=0
def tw7502175932736486862:=0
def tw1273886051538701615:=0
def tw8163489834481113700:=0
def tw5618523235031917551:=0
def tw1053823705256510939:=0
def tw188900648408909769:=0
def tw10655499690852433458:=0
def tw9587410035811283718:=0
def tw4266748940006306783:=0
def tw18211280030675906197:=0
def tw7253382074364684805:=0
def tw9621525858156399356:=0
def tw17851876367583468592:=0
def tw17544491617040819427:=0
def tw4785882646925640708:=0
def tw9251926020303886327:=0
def tw1309892404710416197:=0
def tw9769958620639007796:=0
def tw16311226312506946897:=0
def tw10052493537579742225:=0
def tw4776903334207870726:=0
def tw3653869853148608177:=0
def tw13589039376785118031:=0
def tw6356776932640033908:=0
def tw1703709201723881754:=0
def tw17341558172431687492:=0
def tw8688513929167961713:=0
def tw16383947918191384705:=0
def tw11528169143986368087:=0
def tw3263602467829734005:=0
def tw6900790655844446658:=0
def tw14970447597027539770:=0
def tw17778643585126351221:=0
def tw6380043815110451223:=0
def tw13822678586909497413:=0
def tw5457976209999022394:=0
def tw13886329172381712207:=0
def tw12152434262374752299:=0
def tw9706049326650540181:=0
def tw14712181826496791407:=0
def tw12368230490654272582:=0
def tw2588804060234312230:=0
def tw17382448957334097437:=0
def tw12957511904965026336:=0
def tw7705759965288031274:=0
def tw8645910451378799040:=0
def tw11284933840939341492:=0
def tw5194899790699435369:=0
def tw15315148831622574409:=0
def tw1389257524035858215:=0
def tw609791628415074418:=0
def tw10375673715019140836:=0
def tw9535179195998535798:=0
def tw13530603402435860012:=0
def tw11014732673595419621:=0
def tw14765816248976266715:=0
def tw2440934515912586992:=0
def tw14307190680184622202:=0
def tw2210540701093580017:=0
def tw8193664690358031333:=0
def tw16417637915777350631:=0
def tw7328493817134269582:=0
def tw357472953247415473:=0
def tw4252179583362271032:=0
def tw10926669755742377769:=0
def tw16992554016711914587:=0
def tw11836017322826379195:=0
def tw6297500508731431996:=0
def tw7524242226225715221:=0
def tw12762577686388594374:=0
def tw18006138534889718146:=0
def tw14137013825154415518:=0
def tw17001458102747674564:=0
def tw7279928812331676523:=0
def tw9972354982594670763:=0
def tw5116293205836820468:=0
def tw4791768664933641104:=0
def tw17515647686768628983:=0
def tw7470861910806236546:=0
def tw16759392306466216040:=0
def tw10963664919398091648:=0
def tw15883802068866106718:=0
def tw900181001699526418:=0
def tw5715732031790736698:=0
def tw464536549092816174:=0
def tw18376178226473220296:=0
def tw9701233815116974252:=0
def tw15116787955758594009:=0
def tw245428693110542650:=0
def tw10246645006195380836:=0
def tw30522573078167476:=0
def tw3199873045007367432:=0
def tw10608409953483673310:=0
def tw14428550455647408842:=0
def tw9380539515504290368:=0
def tw3386998798363345459:=0
def tw9439232390949903959:=0
def tw17438626145471105055:=0
def tw15021063438446101137:=0
def tw8427802522846190322:=0
def tw17562002275861093852:=0
def tw3265713674320565227:=0
def tw13793056437860934900:=0
def tw7721405633118699317:=0
def tw1232852086385257341:=0
def tw1289906030631417643:=0
def tw6670360800742783117:=0
def tw11138243929467603121:=0
def tw5635859892086553897:=0
def tw6729148597282190388:=0
def tw8725559169846691393:=0
def tw15301373342534858311:=0
def tw4726624458096080785:=0
def tw10135393601099028280:=0
def tw16297325746634268543:=0
def tw13294549274993997579:=0
def tw8568647306300269700:=0
def tw8410066558591343165:=0
def tw4462485321206408968:=0
def tw17546004652748256648:=0
def tw13859593041541629754:=0
def tw15148042681413554773:=0
def tw5847695489386943814:=0
def tw6675076020109668211:=0
def tw9426968646102790757:=0
def tw7553083767449255147:=0
def tw14398719747466123462:=0
def tw7183022874819911982:=0
def tw439800359178393504:=0
def tw4667916170877737484:=0
def tw2289398636391345853:=0
def tw3966443175944553753:=0
def tw11803719194834654584:=0
def tw7380714528820797678:=0
def tw341840715463493629:=0
def tw6003745047772223631:=0
def tw5862408779521033375:=0
def tw2171875629585285086:=0
def tw10009095830696202376:=0
def tw18210830388808118858:=0
def tw650418999291990223:=0
def tw14739873814964378282:=0
def tw13162390335332683216:=0
def tw9300531078316304635:=0
def tw182082643321349793:=0
def tw17985036181352512002:=0
def tw7418497187180323357:=0
def tw16895233554054421151:=0
def tw17933991424929579521:=0
def tw4595993066270751996:=0
def tw18176698540199083044:=0
def tw17661173843151237358:=0
def tw1925229654667063368:=0
def tw10187176883678007181:=0
def tw1484159584122397584:=0
def tw16489919977283672355:=0
def tw17035758484429644224:=0
def tw1089025180334918864:=0
def tw17016411403522247574:=0
def tw14784454036758760598:=0
def tw434341494821755966:=0
def tw13661213861169604450:=0
def tw8469942632007055741:=0
def tw12746323130392632616:=0
def tw17925721804152168620:=0
def tw15105176975949970777:=0
def tw7793372213359114693:=0
def tw9594197447597207379:=0
def tw1722509037757716246:=0
def tw6783374162691973498:=0
def tw10066160869427995508:=0
def tw5557558027287725192:=0
def tw13247772075956200457:=0
def tw10195634923149301423:=0
def tw8909709375054875593:=0
def tw8530395540300766439:=0
def tw12145048069614429150:=0
def tw12399895990294758975:=0
def tw16551412021427569578:=0
def tw118960066205924797:=0
def tw9018596101510846180:=0
def tw13590211185367546550:=0
def tw13107134203578284308:=0
def tw14569258899027812337:=0
def tw5613109527158857126:=0
def tw9088820327123686560:=0
def tw13389896453553158883:=0
def tw17622796841962659613:=0
def tw14775335974065212175:=0
def tw3810560855621173624:=0
def tw11833860405865933632:=0
def tw10775800558283854010:=0
def tw16862471028171574311:=0
def tw5663314034863640943:=0
def tw5726485701776373744:=0
def tw16556993173264610970:=0
def tw18122217341683781374:=0
def tw6408381666311001383:=0
def tw17668060665145113111:=0
def tw16059682385906389612:=0
def tw14612114665039657913:=0
def tw6121595011224263384:=0
def tw17319769557100687605:=0
def tw6609307521268329374:=0
def tw12517240400050731:=0
def tw329459792484789612:=0
def tw6644206691718047403:=0
def tw3298095195840328905:=0
def tw5019925075103095450:=0
def tw13756180010319312668:=0
def tw8388485483287349778:=0
def tw8609887485757431321:=0
def tw15004278429193201481:=0
def tw11984057732100939201:=0
def tw17812211104393999767:=0
def tw1145253128547586009:=0
def tw17160106885080904375:=0
def tw12570623902443729965:=0
def tw9305010242901317604:=0
def tw15714863222749878735:=0
def tw11789127822653710966:=0
def tw3000876130114895424:=0
def tw4411645566089161603:=0
def tw16283973001797298859:=0
def tw3896424491027690000:=0
def tw16592858160847905654:=0
def tw15588402939850123190:=0
def tw3385205373288845109:=0
def tw17975378980359958425:=0
def tw7710010229290587223:=0
def tw14230412712492082877:=0
def tw3935912939117356282:=0
def tw13635432386271887875:=0
def tw4074222908227613924:=0
def tw5352682141683246111:=0
def tw991929838337822875:=0
def tw845127722870810077:=0
def tw14987434335337256330:=0
def tw10587283732042466503:=0
def tw6143615152763944230:=0
def tw13983786051632929435:=0
def tw9328859117485740940:=0
def tw10211289651710728294:=0
def tw10547225006802687334:=0
def tw7436754549855168:=0
def tw3899873433597332379:=0
def tw6482345274970018134:=0
def tw8112143190906905361:=0
def tw3506063439240761851:=0
def tw3922090805378566700:=0
def tw10299544111673409647:=0
def tw3460924438315791931:=0
def tw14691672191148275812:=0
def tw17327870728214888169:=0
def tw10747674026942319515:=0
def tw9516119254203924893:=0
def tw2547739154980305558:=0
def tw473630362872630138:=0
def tw122234554105372027:=0
def tw1452815163632835524:=0
def tw10756300728780589722:=0
def tw4966017312243777069:=0
def tw17640192077034738236:=0
def tw14861786091407723474:=0
def tw3742710409072235567:=0
def tw13857003354373918638:=0
def tw8684105429977011851:=0
def tw2143283809696685685:=0
def tw9576737971192786595:=0
def tw11898824433927183279:=0
def tw6391270098519402060:=0
def tw2961006714542249676:=0
def tw10871554397607679335:=0
def tw4974646410794438360:=0
def tw16589611188898771476:=0
def tw11955440288643554614:=0
def tw15409079417003471574:=0
def tw7816273554142715762:=0
def tw9773876584315218917:=0
def tw14418504871625696392:=0
def tw10749216226183939381:=0
def tw12871279410552099297:=0
def tw13661123828190848425:=0
def tw1719658211172374067:=0
def tw11911485783122224229:=0
end PySem.W.Fast
open PySem PySem.W PyProof.Rows
set_option maxRecDepth 100000 in
set_option maxHeartbeats 0 in
theorem PySem.Challenge.cw_gaze_k67_windows_of_rises_holds : PySem.Challenge.rw_gaze_k67_windows_of_rises.Holds := by
 w_on;o_law;k_head;(case hw=>w_witness2)
 k_fill
 refine zm.walk (l:=PySem.Challenge.rw_gaze_k67_windows_of_rises) rfl rfl (λw h Y=>PySem.W.kIn_of Y) ?F
 case F =>
  intro w mg fa h KX G XX;refine' zm.W4 KX G XX ?_ ?_ ?_ ?_ ?_ ?_ ?_ ?_ ?_ ?_ ?_ ?_ ?_ ?_ ?_ ?_ ?_ ?_ ?_ ?_ ?_ ?_ ?_ ?_ ?_ ?_ ?_ ?_ ?_ ?_ ?_ ?_ ?_ ?_ ?_ ?_ ?_ ?_ ?_ ?_ ?_ ?_ ?_ ?_ ?_ ?_ ?_ ?_ ?_ ?_ ?_ ?_ ?_ ?_ ?_ ?_ ?_ ?_ ?_ ?_ ?_ ?_ ?_ ?_ ?_ ?_ ?_ ?_ ?_ ?_ ?_ ?_ ?_ ?_ ?_ ?_ ?_ ?_ ?_ ?_ ?_ ?_ ?_ ?_ ?_ ?_ ?_ ?_ ?_ ?_ ?_ ?_ ?_ ?_ ?_ ?_ ?_ ?_ ?_ ?_ ?_ ?_ ?_ ?_ ?_ ?_ ?_ ?_ ?_ ?_ ?_ ?_ ?_ ?_ ?_ ?_ ?_ ?_ ?_ ?_ ?_ ?_ ?_ ?_ ?_ ?_ ?_ ?_ ?_ ?_ ?_ ?_ ?_ ?_ ?_ ?_
  rotate_left 13
  iterate 9 k_is
  iterate 9 walk_at "f"
  iterate 2 walk_at "gzfi"
  iterate 63 walk_at "f"
  iterate 17 k_is
  walk_at "l"
  iterate 4 k_is
  walk_at "l"
  iterate 6 k_is
  walk_at "l"
  iterate 10 k_is
  iterate 4 walk_at "x"
  iterate 4 k_is
  iterate 2 kit_is
  iterate 3 k_is
#print axioms PySem.Challenge.cw_gaze_k67_windows_of_rises_holds
