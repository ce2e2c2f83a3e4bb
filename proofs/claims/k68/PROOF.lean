import PyProof.Rows.All
import Wide.All
import OpenK.AllK
import Wide.FinOn
import Lean
import PyProof.EqAt
import PyProof.EqKinds
import PyProof.TupleCall
import KE.KSortAsk
import KE.KSortTup
import KE.KRevIter
import KE.LcSums
import KE.KDictSum
import KE.KDictList
import PyProof.AttrMissHeap
import PySem.Challenge.RW_gaze_k68_no_great_rise_is_missed
set_option Elab.async false
set_option linter.all false
set_option maxRecDepth 100000
set_option maxHeartbeats 4000000
set_option exponentiation.threshold 2000
set_option compiler.extract_closed false
open PySem.W renaming Frag → XW, findIn → YD, nsIn → YE, mg_none_of → YI, mg_of → Zo, kia_one → Zp, emptyDict → Zt, keepIn → Zx, kitOne → Zy, instObj → Z2, makesIn → aaG, methodCall_KW → aaH, fnOf → aaI, callWith_K → abf, plainGet → abF, plainGet_of → abN, lookIn → acb, codeIn → acd, methodObj → acn, hasDictIn → acp, specialIn → acq, cellsFrom_some → acY, hideAll → ac8, isFn → ade, takerIn → adg, OpenLaw → adl, KdlSrc → adG, hideAll_get → adI, callWith_K0 → adK, of_hideAll → adS, plainOver → aei, kitx_list → aej, kitx_dict → aek, handedIn → aeH, kitMeta → aeZ, readsIn → ae8, findCls → ae9, WalkO → afA
open PySem renaming wpAny_bind → XX, wpAny_pure → X3, Value → X7, Shared → Yd, Addr → Ye, wpAny → Yr, sizeLine → Yt, starEach → Yv, mainGlobals → Yw, lookup_relabel_local → YA, bootBuiltins → YO, wpAny_truthy_bool → YR, Program → Y0, wpAny_newObj_type → Y5, codeAny_builtin → Zb, compareOp → Zd, wpAny_call_entry → Zj, wpAny_mono → Zl, World → Zw, wpAny_holding → Zz, wpAny_Call_Name_kw → ZA, wpAny_callSpecial?_slot → ZD, Stmt → ZO, Around → ZP, intItems → ZS, wpAny_typeNameOfWhole_keyiter → ZV, plainId_quiet → ZX, backTo → ZZ, foldedSetIterable → Z1, mem_of_lookup → Z4, wpAny_updateSeq → Z5, sysModules → aab, behindInMarks → aad, wpAny_typeNameOf_keyiter → aao, Heap → aax, tupleKind_room_in1 → aaC, pyNext → aaE, Builtin → aaJ, builtinLookup_eq_fast → aaL, codeAny → aaS, wpAny_seqItems → aaT, wpAny_tryCatch → aaU, wpAny_fieldsOf → aaW, binaryOp → aaY, FuncData → aa0, wpAny_isInstance → aa4, wpAny_askSetting → aa5, sliceBounds → aa6, wpAny_comprehension_free → aba, wpAny_passesOwn → abd, attributeBase → abe, wpAny_attempt → abg, wpAny_ite_split → abh, rawInt → abj, wpAny_pyIter_list → abn, sizeLine_eq → abo, keywordEach → abp, wpAny_setState_of → abt, wpAny_setField → abw, codeAny_mono → aby, wpAny_isOneOf_keyiter → abB, Expr → abD, intKind → abE, swapsWith → abL, letOwnedTupleGo → abM, DictEntry → abP, argBest → abR, wpAny_specialOf → abU, typeLookup_type → abW, wpAny_setEntries_of → abX, Tok → abY, wpAny_field → ab1, entryFor → ab8, wpAny_setField_rec → aca, newFunctionEnv → ace, firstArgMember → acf, assignEach → aco, wpAny_getItem_list_slice → acs, updateSeq → acu, wpAny_pyIter_enum → acv, wpAny_pyIter_slot → acx, wpAny_dictEntries → acy, NameKind → acE, richCompare → acH, wpAny_letGo → acI, wpAny_of_eq → acJ, intItems_at → acK, wpAny_eqBool_int → acP, Scope → acU, wpAny_pyNext_range_end → acW, wpAny_pyIter_rangeiter → acX, wpAny_pyNext_enum_item → ac0, tupleKind → ac7, wpAny_isTrue_Compare1 → ada, wpAny_execs_nil → adb, getMethod → adf, cLine → adh, argsOk → adj, wpAny_pyNext_enum_end → adk, wpAny_dictEpoch → adm, backToKw → adt, wpAny_rule → adu, codeAny_call_builtin → ady, wpAny_pyIter_revIter → adA, wpAny_pyIter_keyiter → adC, isSubtype_stop → adF, isSubtype_type → adH, IsRangeIter → adJ, numAt → adM, call_enumerate_list → adO, wpAny_standAt → adV, wpAny_pyIter_tuple → adW, wpAny_pyIter_range → adX, Result → adY, evalPart_none → adZ, seqItems? → ad2, wpAny_tupleItemsOf → aec, builtinsNs → aef, standAt → aeg, BindsTo → ael, wpAny_call → aem, typeLookup → aen, call_meets → aep, list_append → aeq, valueAt → aev, Within → aeA, seqIndex_neg → aeD, wpAny_execs_cons → aeG, checkBuiltinCall → aeI, wpAny_pyIter_zip → aeK, compEnvC → aeN, setField → aeO, hashInt → aeP, lastMarks → aeR, getItem → aeT, seqIndex_of → aeU, slicePick → aeW, Keyword → aeX, callerA → aeY, notedBy → ae0, builtinKind → ae1, plainId → ae2, size_of_entries → aff, codeAny_of_tree → afh, wpAny_Name → afo, typeIs_int → afq, closureFor → afr, PyData → afs, setsByText → afw, callWith → afy, newList → afz, newTuple → afC, SetTable → afD, Paired → afI, isTrue → afJ, pyIter → afK, atKey → afQ, pickOrder → afV, bindL → afZ, bindC → af0, setNext → af1
open List renaming length_map → XY, getD_eq_getElem?_getD → XZ, getElem?_eq_getElem → X0, getElem?_eq_some_iff → X6, length_range → Yb, mem_map → Yc, getElem?_map → Yf, size_toArray → Yg, length_append → Yh, mem_cons → Yi, nil_append → Yj, mem_append_right → Ym, range → Yn, mem_of_getElem? → Yo, map_cons → Ys, length_singleton → Yx, mem_filter → Yy, mem_append → Yz, mem_range → YF, mem_singleton → YG, length_filter_le → YH, getElem?_range → YN, replicate → YT, mem_cons_of_mem → YU, getElem?_append_left → YX, length_cons → YY, any_eq_true → YZ, drop_eq_getElem_cons → Y3, filter_cons → Y4, map_map → Y8, getElem?_eq_none → Y9, getElem?_append_right → Za, mem_append_left → Zc, filterMap_cons → Zf, map_append → Zg, mem_iff_getElem? → Zh, take_succ → Zi, any_cons → Zn, nodup_cons → Zq, take_length → Zr, find?_cons → ZC, lookup_cons → ZG, all_eq_true → ZH, length_reverse → ZJ, map_congr_left → ZK, mem_filterMap → ZQ, getElem?_replicate → ZW, length_eq_zero_iff → ZY, lookup → Z3, filter_eq_self → Z7, length_replicate → aaf, getElem?_reverse → aag, toArray → aah, take_append_drop → aai, ext_getElem? → aap, getElem?_cons_succ → aav, mem_cons_self → aaB, length_nil → aaK, length_take → aa1, not_mem_nil → aa2, drop_of_length_le → abl, reverse_cons → abq, mem_flatMap → abI, toList_toArray → abZ, flatMap_append → ab0, range_succ → ab2, length_flatMap → ab3, map_nil → ab7, nodup_nil → acg, findIdx?_eq_none_iff → aci, append_assoc → acw, foldl_append → acz, length_erase_of_mem → acB, nodup_append → acC, length_drop → acQ, drop_length → acR, getElem_mem → acS, ext_getElem → acT, getElem?_set_self → acV, take_of_length_le → ac1, drop_eq_nil_of_le → ac2, length_pos_of_mem → ac6, of_mem_zip → adi, contains_iff_mem → ads, getElem?_set_ne → adv, mem_iff_getElem → adz, mem_erase_of_ne → adD, length_pos_iff → adN, getElem_of_mem → adQ, all_cons → ad0, sum_cons → ad5, pairwise_cons → ad9, mem_replicate → aea, filter_append → aed, any_eq_false → aeh, pairwise_map → aeu, map_id' → aeF, append_nil → aeS, length_set → aeV, foldl_cons → ae3, length_zip → ae5, sum_append → afb, getD → afj, findIdx? → afF, sum_nil → afP, all_map → afT
open PySem.Heap renaming get?_push_of_some → X2, lt_size → X4, get?_push_size → Ya, get?_update_other → Yl, get?_update_self → YQ, size_push → ZM, ExtBut → afc
open Nat renaming le_trans → X5, le_refl → X9, ne_of_lt → Yk, lt_of_lt_of_le → Yp, zero_le → YB, ne_of_gt → Y7, lt_of_le_of_lt → Ze, lt_irrefl → Zk, not_lt_zero → ZN, lt_succ_of_lt → aaQ, lt_succ_self → aaZ, le_of_lt → abx, pow_le_pow_right → abJ, le_succ → abO, lt_of_succ_lt_succ → ac4, sub_self → adq, le_succ_of_le → aex, succ_ne_self → aeM, le_of_eq → afM, lt_trans → afR, pow_succ → afU, zero_add → afW
open Bool renaming false_ne_true → Yq, false_eq_true → Yu, and_eq_true → ZF, eq_iff_iff → aaF, eq_false_iff → aaO, false_and → abv, or_eq_true → abS, true_and → acM, and_false → adE, not_true → aeb, not_eq_true' → aer, not_false → afn, false_or → afB
open PySem.Value renaming ref → YC, bool → ZE, int → aak, isInt → abm, type → acm, str → adR, float → aeQ, isStrOf → afx, bytes → afX
open Option renaming map_eq_some_iff → YJ, isSome_iff_exists → aam, isNone → aaR, getD_some → aa3, ne_none_iff_exists' → ab6, isNone_iff_eq_none → ach, toList_some → ad4, isSome_some → ad6, isSome_map → aew
open Array renaming getElem?_eq_getElem → YK, length_toList → aat, getElem?_eq_none → aaA, getElem?_toList → abC, getD_eq_getD_getElem? → abT, append_assoc → adT, toList_push → aez, toList → aeB, getD → aft
open PyProof.Rows renaming callWith_type1 → YL, envOfC → ZR, callWith_builtin1 → aar, seqObj → aaD, kindOf → acr, IntsAre → acF, subscriptTail → acG, subscriptTail_builtinR → acZ, AllBare → ac9, mirror_perm → adP, Constant_none → adU, listUpdate_at → ad8, Subscript_ → aeo, get?_update_seq → afd, seqEpoch_at → afe, mulOk_of_bits → afk, boot_range → afp, test_link → afL, bits_add → afN, bits_mul → afO, Call_ → afY
open PySem.PassesOwn renaming never → YM, leaving → abu
open Int renaming toNat_natCast → YS, le_refl → Y6, toNat_of_nonneg → ZL, le_trans → aas, mul_nonneg → aaz, zero_add → aaN, mul_le_mul_of_nonneg_left → abH, mul_le_mul → ack, eq_ofNat_of_zero_le → acO, toNat → adp, emod_lt_of_pos → ad3, ediv_le_self → aeL, le_antisymm → ae4, ediv_nonneg → ae6, emod_nonneg → afa, ediv_one → afS, add_mul → af2
open PySem.Around renaming under_plainId → YV, under → aeC
open PySem.F renaming plainAttrs_list → YW, slot_dict_keyiterator_next → Zv, slot_list_append → ZT, type_list_append → ZU, slot_enumerate_next → Z9, plain_min_loop → aaa, plain_extend_loop → aaj, args_dict_keyiterator_next_1 → aaV, entry_dict_keyiterator_next → aa7, slot_list_extend → abb, type_list_extend → abc, slot_list_index → abi, entry_min_loop → abk, args_enumerate_next_1 → abG, entry_enumerate_next → abK, excBase_ValueError → ab5, entry_extend_loop → acj, type_list_index → acN, slot_dict_iter → ac3, slot_tuple_lt → adn, plain_set_new → ado, args_list_append_2 → adx, entry_list_append → adL, slot_list_append → ad1, plain_min → aes, entry_min → aet, kind_min → aeJ, slot_set_iter → afi
open Ne renaming symm → Y1
open PySem.Builtin.Range renaming rangeSize → Y2, rangeFitsLong → ae7
open PySem.Obj renaming mapSeq → Zm, mapFields → aaP, data_mapFields → ad7, putSet → afv
open PySem.Heap.SameBut renaming update → Zs
open PySem.SetTable.below renaming go → Zu
open PySem.Str renaming ofString → ZI
open PyProof.Rows.F renaming plain_set_update_loop → Z0, entry_set_update_loop → aaX
open PySem.Builtin.Builtins renaming bindParams → Z6
open PySem.Builtin.List renaming listExtendWith → Z8, listLengthHint → aaM, listTooLong → aa9, listSameRef → acA, listItems → ac5, listUpdate → afG, listTouch → afH
open False renaming elim → aac
open PySem.Calls renaming spliced_cons → aae, spliced_nil → aal, Name_function_global → ab4, evalArgs_plain → adw
open PySem.W.WData renaming int → aan, weightAll → aaw, layable → abA, weight → adB, layableAll → afu
open PySem.SetTable.probe renaming go → aaq
open PySem.Builtin.Int renaming intBits → aau
open True renaming intro → aay
open PySem.Builtin.SmallTypes renaming ownedTupleIsFree → aa8
open PySem.SetTable renaming insertAt → abr, probeStart → abV, has → ab9, fill → acL, freeSlot → aey, runEnd → afg, probe → afl, turns → afm, slot → afE
open Or renaming inl → abz, inr → aeE
open ForInStep renaming yield → abQ
open Sum renaming inl → acD, inr → aee
namespace L2
open PySem PySem.Spec PyProof.Rows
abbrev Key:=Sum Int Str
noncomputable def nK:Key->X7->Bool
 | .inl k,v=>abm k v
 | .inr x,v=>afx x v
noncomputable def J5(w:Zw):Key->Int
 | .inl k=>aeP k
 | .inr x=>hashStr w x
theorem jI:∀ {k:Key} {v:X7},nK k v=true->(∃ i t,k=acD i/\v=aak i t)∨(∃ x t,k=aee x/\v=adR x t)
 | .inl i,v,h=>by obtain⟨t,e⟩:=Value.isInt_shape (k:=i) (v:=v) h;exact .inl ⟨i,t,rfl,e⟩
 | .inr x,v,h=>by obtain⟨t,e⟩:=Value.isStrOf_shape (x:=x) (v:=v) h;exact .inr ⟨x,t,rfl,e⟩
theorem J6(i:Int)(t:Tok):nK (.inl i) (.int i t)=true:=by simp[nK,abm]
theorem J9(x:Str)(t:Tok):nK (.inr x) (.str x t)=true:=by simp[nK,afx]
theorem Ka(a b:Int):decide ((acD a:Key)=acD b)=(a == b):=by
 by_cases e:a=b
 .subst e;simp
 .have h:¬ (acD a:Key)=acD b:=λq=>e (Sum.inl.inj q);rw[decide_eq_false h];exact (beq_eq_false_iff_ne.mpr e).symm
theorem Kb(a b:Str):decide ((aee a:Key)=aee b)=decide (a=b):=by
 by_cases e:a=b
 .subst e;simp
 .have h:¬ (aee a:Key)=aee b:=λq=>e (Sum.inr.inj q);rw[decide_eq_false h,decide_eq_false e]
theorem Kc(a:Int)(b:Str):decide ((acD a:Key)=aee b)=false:=decide_eq_false (λq=>nomatch q)
theorem Kd(a:Str)(b:Int):decide ((aee a:Key)=acD b)=false:=decide_eq_false (λq=>nomatch q)
noncomputable def eW(prog:Y0)(w:Zw):PySem.KeyKind prog w Key where
 is:=nK
 hash:=J5 w
 inj:=λv a b ha hb=>by
  rcases jI ha with ⟨i,t,rfl,rfl⟩|⟨x,t,rfl,rfl⟩
  .rcases jI hb with ⟨j,u,rfl,e⟩|⟨y,u,rfl,e⟩
   .injection e with e1 _;rw[e1]
   .exact nomatch e
  .rcases jI hb with ⟨j,u,rfl,e⟩|⟨y,u,rfl,e⟩
   .exact nomatch e
   .injection e with e1 _;rw[e1]
 byValue:=λk v h=>by
  rcases jI h with ⟨i,t,rfl,rfl⟩|⟨x,t,rfl,rfl⟩<;>rfl
 pyHash:=λhv h=>by
  rcases jI hv with ⟨i,t,rfl,rfl⟩|⟨x,t,rfl,rfl⟩
  .exact wpAny_pyHash_int h
  .exact wpAny_pyHash_str h
 eqBool:=λhu hv h=>by
  rcases jI hu with ⟨i,t,rfl,rfl⟩|⟨x,t,rfl,rfl⟩
  .rcases jI hv with ⟨j,u,rfl,rfl⟩|⟨y,u,rfl,rfl⟩
   .rw[Ka] at h;exact acP h
   .rw[Kc] at h;exact SeqAt.EqAt.int_str i t y u _ _ _ _ h
  .rcases jI hv with ⟨j,u,rfl,rfl⟩|⟨y,u,rfl,rfl⟩
   .rw[Kd] at h;exact SeqAt.EqAt.str_int x t j u _ _ _ _ h
   .rw[Kb] at h;exact wpAny_eqBool_str h
 «strs»:=λk x t v h=>by
  rcases jI h with ⟨i,u,rfl,e⟩|⟨y,u,rfl,e⟩
  .exact nomatch e
  .injection e with e1 _;subst e1;cases v<;>rfl
theorem Ke(prog:Y0)(w:Zw)(i:Int)(t:Tok):(eW prog w).is (.inl i) (.int i t)=true:=J6 i t
theorem Kf(prog:Y0)(w:Zw)(x:Str)(t:Tok):(eW prog w).is (.inr x) (.str x t)=true:=J9 x t
inductive V where
 | non|bl (b:Bool)|int (i:Int)|str (x:Str)|byt (b:Array UInt8)|flt (b:UInt64)|ref (a:Ye)|ty (n:String)
 deriving DecidableEq
def RelV:V->X7->Prop
 | .non,u=>u=Value.none
 | .bl b,u=>u=ZE b
 | .int i,u=>∃ t,u=aak i t
 | .str x,u=>∃ t,u=adR x t
 | .byt b,u=>∃ t,u=afX b t
 | .flt b,u=>∃ t,u=aeQ b t
 | .ref a,u=>u=YC a
 | .ty n,u=>u=acm n
abbrev Vals:List V->List X7->Prop:=afI RelV
theorem Vals.length(r:Vals xs us):xs.length=us.length:=Paired.length r
theorem Vals.get:∀ {xs:List V} {us:List X7} {i:Nat} {x:V},Vals xs us->xs[i]?=some x->∃ u,us[i]?=some u/\RelV x u
 | _,_,_,_,.nil,e=>by simp at e
 | _,_,0,_,.cons r _,e=>by simp at e;subst e;exact⟨_,rfl,r⟩
 | _,_,i+1,x,.cons _ t,e=>by obtain⟨u,h1,h2⟩:=Vals.get (i:=i) (x:=x) t (by simpa using e);exact⟨u,by simpa using h1,h2⟩
theorem Vals.set(r:RelV x u):∀ {xs:List V} {us:List X7} (i:Nat),Vals xs us->Vals (xs.set i x) (us.set i u)
 | _,_,_,.nil=>.nil
 | _,_,0,.cons _ t=>.cons r t
 | _,_,i+1,.cons q t=>.cons q (Vals.set r i t)
theorem Vals.append:∀ {xs ys:List V} {us ws:List X7},Vals xs us->Vals ys ws->Vals (xs++ys) (us++ws)
 | _,_,_,_,.nil,s=>s
 | _,_,_,_,.cons r t,s=>.cons r (Vals.append t s)
theorem Vals.take:∀ {xs:List V} {us:List X7} (n:Nat),Vals xs us->Vals (xs.take n) (us.take n)
 | _,_,0,_=>.nil
 | _,_,_+1,.nil=>.nil
 | _,_,n+1,.cons r t=>.cons r (Vals.take n t)
theorem Vals.drop:∀ {xs:List V} {us:List X7} (n:Nat),Vals xs us->Vals (xs.drop n) (us.drop n)
 | _,_,0,r=>r
 | _,_,_+1,.nil=>.nil
 | _,_,n+1,.cons _ t=>Vals.drop n t
def eX:Option V->Option X7->Prop
 | some v,some u=>RelV v u
 | none,none=>True
 | _,_=>False
def KV{κ:Type}:List (κ × V)->List (κ × X7)->Prop:=afI λ(p:κ × V) (q:κ × X7)=>p.1=q.1/\RelV p.2 q.2
noncomputable def kV:Key->V
 | .inl i=>.int i
 | .inr x=>.str x
inductive HO where
 | lst (xs:List V)
 | tup (xs:List V)
 | dK (kvs:List (Key × V))|dT (kvs:List (List Key × V))
 | set (S:Int->Bool) (n:Nat)
 | ins (C dx:Ye) (fs:List (Str × V))
 | own (x:Ye)
 | xd (fs:List (Str × V))
 | met (f x:Ye)
 | fj (lo hi:Int)
 | aO (o:Obj) (u:HO)
 | tbl (ps:Array X7)
 | ext (φ:aax->Prop)
abbrev Hp:=Ye->Option HO
noncomputable def upd(H:Hp)(a:Ye)(o:HO):Hp:=λb=>if b=a then some o else H b
theorem ar:upd H a o a=some o:=by unfold upd;rw[if_pos rfl]
theorem aG(h:b≠a):upd H a o b=H b:=by unfold upd;rw[if_neg h]
theorem ic:upd (upd H a o) a u=upd H a u:=by funext b;unfold upd;split<;>rfl
theorem nM{H:Hp}{a b:Ye}{o u:HO}(h:H a=some o)(h':H b=some u)(d:o≠u):a≠b:=by intro e;subst e;rw[h] at h';exact d (Option.some.inj h')
theorem ie{H:Hp}{a b:Ye}{o:HO}(h:H a=some o)(h':H b=none):a≠b:=by intro e;subst e;rw[h] at h';cases h'
section
variable(P:Y0)(w:Zw)
def bK(H:Hp)(h:aax)(a:Ye):HO->Prop
 | .lst xs=>xs.length<=Yt/\∃ (aq:List X7) (n:Nat),Vals xs aq/\h.get? a=some { cls:=.type "list",data:=.seq aq.toArray n }
 | .tup xs=>xs.length<=Yt/\∃ aq:List X7,Vals xs aq/\IsTup h a aq.toArray
 | .dK kvs=>kvs.length<=Yt/\(a == aab)=false/\∃ vs,KV kvs vs/\h.DictOf (eW P w) a vs
 | .dT kvs=>kvs.length<=Yt/\(a == aab)=false/\∃ xs:List (List Key × Ye × X7),
  afI (λ(p:List Key × V) (q:List Key × Ye × X7)=>p.1=q.1/\H q.2.1=some (.tup (p.1.map kV))/\RelV p.2 q.2.2) kvs xs /\
  ∃ o es ep,h.get? a=some o/\o.ExactDict/\o.data = .dict es ep/\es.toList=xs.map (entryOfKey (ac7 (eW P w)))/\(xs.map (·.1)).Nodup
 | .set S n=>h.SetOf (abE P w) a S n
 | .ins C dx fs=>H dx=some (.own a)/\fs.length<=1000/\dx≠a/\h.get? a=some (Z2 C dx) /\
  ∃ mA,h.Ns1 dx mA/\(∀ f,eX (fs.lookup f) (mA f))/\aeA mA (fs.map (·.1))
 | .own _=>∃ o,h.get? a=some o
 | .xd fs=>∃ mA,h.Ns1 a mA/\∀ f,eX (fs.lookup f) (mA f)
 | .fj lo hi=>∃ t u v,h.get? a=some { cls:=.type "range",data:=.fields #[.int lo t,.int hi u,.int 1 v] }
 | .aO o u=>h.get? a=some o/\bK H h a u
 | .tbl ps=>h.get? a=some { cls:=.none,data:=.fields ps }
 | .met f x=>h.get? a=some (acn (.ref f) (.ref x))
 | .ext φ=>φ h/\(∃ o,h.get? a=some o)/\∀ h1 h2:aax,φ h1->(∀ o,h1.get? a=some o->h2.get? a=some o)->φ h2
def bU(H:Hp)(h:aax):Prop:=∀ a o,H a=some o->bK P w H h a o
end
section
theorem bK.lt(x:bK P w H h a o):a<h.objs.size:=by
 cases o with
 | lst xs=>obtain⟨_,_,_,_,e⟩:=x;exact X4 e
 | tup xs=>obtain⟨_,_,_,p⟩:=x;exact p.lt
 | dK kvs=>obtain⟨_,_,_,_,o,_,_,e,_⟩:=x;exact X4 e
 | dT kvs=>obtain⟨_,_,_,_,o,_,_,e,_⟩:=x;exact X4 e
 | set S n=>obtain⟨o,_,_,_,e,_⟩:=x;exact X4 e
 | ins C dx fs=>obtain⟨_,_,_,e,_⟩:=x;exact X4 e
 | own y=>obtain⟨_,e⟩:=x;exact X4 e
 | xd fs=>obtain⟨_,⟨_,_,_,e,_⟩,_⟩:=x;exact X4 e
 | fj lo hi=>obtain⟨_,_,_,e⟩:=x;exact X4 e
 | aO ob u=>obtain⟨e,_⟩:=x;exact X4 e
 | tbl ps=>exact X4 (show h.get? a=some _ from x)
 | met f y=>exact X4 (show h.get? a=some _ from x)
 | ext φ=>obtain⟨_,⟨_,e⟩,_⟩:=x;exact X4 e
theorem Paired.wz:∀ {l₁:List α} {l₂:List β},afI F l₁ l₂->(∀ a b,F a b->G a b)->afI G l₁ l₂
 | _,_,.nil,_=>.nil
 | _,_,.cons r t,f=>.cons (f _ _ r) (Paired.wz t f)
theorem bK.cK(x:bK P w H h a o)(k:∀ b u,(b=a∨H b=some (.own a))->h.get? b=some u->h'.get? b=some u)(ho:∀ b,H b=some (.own a)->H' b=some (.own a))(ht:∀ b xs,H b=some (.tup xs)->H' b=some (.tup xs)):bK P w H' h' a o:=by
 induction o with
 | lst xs=>obtain⟨z,aq,n,r,e⟩:=x;exact⟨z,aq,n,r,k _ _ (.inl rfl) e⟩
 | tup xs=>obtain⟨z,aq,r,ob,e,c⟩:=x;exact⟨z,aq,r,ob,k _ _ (.inl rfl) e,c⟩
 | dK kvs=>obtain⟨z,y,vs,r,ob,es,ep,e,c⟩:=x;exact⟨z,y,vs,r,ob,es,ep,k _ _ (.inl rfl) e,c⟩
 | dT kvs =>
  obtain⟨z,y,xs,r,ob,es,ep,e,c⟩:=x;exact⟨z,y,xs,Paired.wz r λp q z=>⟨z.1,ht _ _ z.2.1,z.2.2⟩,ob,es,ep,k _ _ (.inl rfl) e,c⟩
 | set S n=>obtain⟨ob,es,ep,t,e,c⟩:=x;exact⟨ob,es,ep,t,k _ _ (.inl rfl) e,c⟩
 | ins C dx fs =>
  obtain⟨d,z,ne,e,mA,⟨od,es,ep,e2,c⟩,r⟩:=x;exact⟨ho _ d,z,ne,k _ _ (.inl rfl) e,mA,⟨od,es,ep,k _ _ (.inr d) e2,c⟩,r⟩
 | own y=>obtain⟨ob,e⟩:=x;exact⟨ob,k _ _ (.inl rfl) e⟩
 | xd fs=>obtain⟨mA,⟨od,es,ep,e,c⟩,r⟩:=x;exact⟨mA,⟨od,es,ep,k _ _ (.inl rfl) e,c⟩,r⟩
 | fj lo hi=>obtain⟨t,u,v,e⟩:=x;exact⟨t,u,v,k _ _ (.inl rfl) e⟩
 | aO ob u ih=>obtain⟨e,q⟩:=x;exact⟨k _ _ (.inl rfl) e,ih q⟩
 | tbl ps =>
  have e:h.get? a=some { cls:=.none,data:=.fields ps }:=x;show h'.get? a=some { cls:=.none,data:=.fields ps };exact k a _ (.inl rfl) e
 | met f y =>
  have e:h.get? a=some (acn (.ref f) (.ref y)):=x;show h'.get? a=some (acn (.ref f) (.ref y));exact k a _ (.inl rfl) e
 | ext φ=>obtain⟨p,⟨o,e⟩,st⟩:=x;exact⟨st _ _ p λo q=>k _ _ (.inl rfl) q,⟨o,k _ _ (.inl rfl) e⟩,st⟩
theorem bU.lt(x:bU P w H h)(e:H a=some o):a<h.objs.size:=(x a o e).lt
theorem bU.fresh(x:bU P w H h)(e:h.objs.size<=a):H a=none:=by
 cases q:H a with
 | none=>rfl
 | some u=>exact absurd (Yp (x.lt q) e) (Zk _)
theorem bU.kept(x:bU P w H h)(k:∀ b u,h.get? b=some u->h'.get? b=some u):bU P w H h':=λa o e =>
 (x a o e).cK (λb u _ q=>k b u q) (λ_ q=>q) λ_ _ q=>q
theorem bU.laid(x:bU P w H h)(k:∀ b u,h.get? b=some u->h'.get? b=some u)(hp:h.objs.size<=a)(new:bK P w (upd H a o) h' a o):bU P w (upd H a o) h':=λb u e=>by
 have hn:=x.fresh hp;by_cases hb:b=a
 .subst hb;rw[ar] at e;cases e;exact new
 .rw[aG hb] at e;exact (x b u e).cK (λc v _ q=>k c v q) (λc q=>by rw[aG (ie q hn)];exact q) λc xs q=>by rw[aG (ie q hn)];exact q
end
def Rd(H:Hp)(a:Ye)(u:HO):Prop:=H a=some u ∨ ∃ o,H a=some (.aO o u)
theorem Rd.ok(r:Rd H a u)(x:bU P w H h):bK P w H h a u:=by
 rcases r with r|⟨o,r⟩
 .exact x a u r
 .obtain⟨_,q⟩:=x a _ r;exact q
def pL:Option HO->Prop
 | some (.lst _)=>True
 | some (.dK _)=>True
 | some (.dT _)=>True
 | some (.set _ _)=>True
 | some (.ins _ _ _)=>True
 | some (.ext _)=>True
 | _=>False
section
theorem bU.write(ok:bU P w H h)(mu:pL (H x))(he:e=x∨H e=some (.own x))(k:∀ b u,b≠e->h.get? b=some u->h'.get? b=some u)(nN:∃ u,h'.get? e=some u)(new:bK P w (upd H x o') h' x o'):bU P w (upd H x o') h':=λb u q=>by
 have BK:∀ c y,H c=some (.own y)->c≠x:=λc y r z=>by subst z;rw[r] at mu;exact mu
 have Kg:∀ c xs,H c=some (.tup xs)->c≠x:=λc xs r z=>by subst z;rw[r] at mu;exact mu
 by_cases hb:b=x
 .subst hb;rw[ar] at q;cases q;exact new
 .rw[aG hb] at q;by_cases iU:b=e
  .have q':H b=some (.own x):=by
    rcases he with z|z
    .exact absurd (iU.trans z) hb
    .rw[iU];exact z
   rw[q] at q';cases q';obtain⟨v,hv⟩:=nN;exact⟨v,by rw[iU];exact hv⟩
  .refine (ok b u q).cK (λc v hc r=>k c v ?_ r) (λc r=>by rw[aG (BK c b r)];exact r) λc xs r=>by rw[aG (Kg c xs r)];exact r
   rcases hc with rfl|hc
   .exact iU
   .rintro rfl;rcases he with z|z
    .exact BK c b hc z
    .rw[hc] at z;cases z;exact hb rfl
end
structure Un(fs ex:List Ye)(H H':Hp)(h h':aax):Prop where
 keep:∀ b o,h.get? b=some o->H b=none->b∉fs->b∉ex->h'.get? b=some o
 slot:∀ b o,h.get? b=some o->H b=none->b∈fs->b∉ex->∃ sl,h'.get? b=some { o with slots:=sl }
 free:∀ b o,h.get? b=some o->H b=none->b∉ex->H' b=none
 there:∀ b o,h.get? b=some o->b∉ex->∃ o',h'.get? b=some o'
 fU:∀ b xs,H b=some (.tup xs)->H' b=some (.tup xs)
 fk:∀ b o u,H b=some (.aO o u)->H' b=some (.aO o u)
 fV:∀ b ps,H b=some (.tbl ps)->∃ more,H' b=some (.tbl (ps++more))
section
variable{fs Xj ex Xk:List Ye}{H H1 H2:Hp}{h h1 h2 h':aax}{a x e:Ye}{o:HO}
theorem Un.any(u:Un fs ex H H1 h h1)(q:h.get? b=some ob)(n:H b=none)(hx:b∉ex):∃ sl,h1.get? b=some { ob with slots:=sl }:=by
 by_cases hb:b∈fs
 .exact u.slot b ob q n hb hx
 .exact⟨ob.slots,u.keep b ob q n hb hx⟩
theorem Un.kept(k:∀ b u,h.get? b=some u->h'.get? b=some u):Un fs ex H H h h' :=
 ⟨λb ob q _ _ _=>k b ob q,λb ob q _ _ _=>⟨ob.slots,k b ob q⟩,λ_ _ _ n _=>n,λb ob q _=>⟨ob,k b ob q⟩,λ_ _ q=>q,λ_ _ _ q=>q,λ_ ps q=>⟨#[],by rw[q];simp⟩⟩
theorem Un.refl:Un fs ex H H h h:=Un.kept λ_ _ q=>q
theorem Un.laid(k:∀ b u,h.get? b=some u->h'.get? b=some u)(hp:h.objs.size<=a)(hn:H a=none):Un fs ex H (upd H a o) h h' where
 keep:=λb u q _ _ _=>k b u q
 slot:=λb u q _ _ _=>⟨u.slots,k b u q⟩
 free:=λb u q n _=>by rw[aG (Yk (Yp (X4 q) hp))];exact n
 there:=λb u q _=>⟨u,k b u q⟩
 fU:=λb xs q=>by rw[aG (ie q hn)];exact q
 fk:=λb u xs q=>by rw[aG (ie q hn)];exact q
 fV:=λb ps q=>⟨#[],by rw[aG (ie q hn),q];simp⟩
theorem Un.write(mu:pL (H x))(he:e=x∨H e=some (.own x))(k:∀ b u,b≠e->h.get? b=some u->h'.get? b=some u)(nN:∃ u,h'.get? e=some u):Un fs ex H (upd H x o) h h':=by
 have hx:∀ b,H b=none->b≠x:=λb n z=>by subst z;rw[n] at mu;exact mu
 have hb:∀ b,H b=none->b≠e:=λb n z=>by
  subst z;rcases he with r|r
  .exact hx b n r
  .rw[n] at r;cases r
 have hm:∀ b u,H b=some u->¬ pL (some u)->b≠x:=λb u q nm z=>by subst z;rw[q] at mu;exact nm mu
 refine⟨λb u q n _ _=>k b u (hb b n) q,λb u q n _ _=>⟨u.slots,k b u (hb b n) q⟩,λb u q n _=>by rw[aG (hx b n)];exact n,λb u q _=>?_,
  λb xs q=>by rw[aG (hm b _ q λz=>z)];exact q,λb u xs q=>by rw[aG (hm b _ q λz=>z)];exact q,λb ps q=>⟨#[],by rw[aG (hm b _ q λz=>z),q];simp⟩⟩
 by_cases iU:b=e
 .subst iU;exact nN
 .exact⟨u,k b u iU q⟩
end
noncomputable def tS(h:aax)(H:Hp):List Ye:=(Yn h.objs.size).filter λa=>(H a).isSome
noncomputable def jJ(h:aax)(H:Hp):aax:=ac8 h (tS h H)
theorem Kh(h:aax)(H:Hp):(jJ h H).objs.size=h.objs.size:=PySem.W.hideAll_size _ _
theorem Ki(e:h.get? b=some o)(n:H b=none):(jJ h H).get? b=some o :=
 adI _ e λhm=>by have q:(H b).isSome=true:=(Yy.mp hm).2;rw[n] at q;simp at q
theorem Kj(e:(jJ h H).get? b=some o):h.get? b=some o/\H b=none:=by
 have e':h.get? b=some o:=adS (tS h H) e;refine⟨e',?_⟩;cases q:H b with
 | none=>rfl
 | some x =>
  have hm:b∈tS h H:=Yy.mpr ⟨YF.mpr (X4 e'),by simp[q]⟩;have z:(jJ h H).get? b=none:=PySem.W.hideAll_none (tS h H) hm;rw[z] at e;cases e
noncomputable def Kk(g h:aax)(L:Ye):List (Ye × Obj):=(Yn h.objs.size).filterMap λa=>if a=L∨(g.get? a).isSome=true then none else (h.get? a).map λo=>(a,o)
noncomputable def rest(g h:aax)(L d:Ye):List (Ye × Obj):=(Kk g h L).filter λp=>decide (p.1≠d)
structure Mod(K:XW)(mg:Str->Option X7)(base:aax):Prop where
 kin:K.In base
 glob:base.Ns Yw mg
 blt:∃ mb,base.Ns aef mb/\∀ x:Str,x ≠ "__name__" -> mb x=YO x
 nolimit:base.NoLimit
structure Cx where
 prog:Y0
 w:Zw
 K:XW
 mg:Str->Option X7
 base:aax
 A:ZP
 N:List Str
 s₀:Yd
 H₀:Hp
 env:Env
 outer:List Env
 stack:List Env
 ex:List Ye
 fn:Str->Bool
 calm:Bool
 pn:List (Ye × Obj)
 xe:X7->Yd->Prop
noncomputable def aX(l:List Env):List Ye:=l.filterMap (·.frame)
noncomputable abbrev Cx.fs(X:Cx):List Ye:=aX X.outer
def tT(sc:acU)(x:Str):Prop:=sc.names.lookup x=some .local∨sc.names.lookup x=some .cell∨sc.names.lookup x=some .free
def Loc(sc:acU)(x:Str):Prop:=sc.names.lookup x=some .local∨sc.names.lookup x=some .cell
def Look(env:Env)(h:aax)(m:Str->Option X7)(x:Str)(u:X7):Prop :=
 (env.kindOf x=some .local/\m x=some u)∨((env.kindOf x=some .cell∨env.kindOf x=some .free)/\∃ c,env.cells.lookup x=some c/\h.IsCell c (some u))
structure Cx.Ok(X:Cx):Prop where
 mod:Mod X.K X.mg X.base
 kind:X.env.scope.kind = .function
 glob:X.env.globals=Yw
 blt:X.env.builtins=aef
 above:X.s₀.heap.objs.size<=X.env.locals
 inj:∀ x y c,X.env.cells.lookup x=some c->X.env.cells.lookup y=some c->x=y
 has:∀ x,(X.env.kindOf x=some .cell∨X.env.kindOf x=some .free)->∃ c,X.env.cells.lookup x=some c
 cab:∀ x c,X.fn x=true->X.env.cells.lookup x=some c->X.s₀.heap.objs.size<=c
 hd:X.calm=true->X.A.handled=none
 frames:X.A.frames=some X.stack
 stk:X.stack=X.outer∨(X.stack=X.env::X.outer/\X.env.frame=some X.env.locals)
 exf:∀ b∈X.ex,b≠X.env.locals/\∀ x c,X.env.cells.lookup x=some c->c≠b
 bs:∀ b o,X.base.get? b=some o->X.s₀.heap.get? b=some o/\X.H₀ b=none
 bsz:X.base.objs.size<=X.s₀.heap.objs.size
 noex:∀ b o,X.base.get? b=some o->b∉X.ex
 exfs:∀ b∈X.ex,b∉X.fs
 gB:X.s₀.heap.FunFrames X.base X.outer
 frf:∀ b∈X.fs,X.H₀ b=none
structure Inv(X:Cx)(pins:List (Ye × Obj))(σ:List (Option V))(H:Hp)(s:Yd):Prop where
 ok:X.Ok
 os:s.os=X.s₀.os
 bare:ac9 s.gens
 base:Un X.fs X.ex X.H₀ H X.s₀.heap s.heap
 loc:∃ m,s.heap.Ns X.env.locals m/\∀ (i:Nat) (x:Str) (v:V),X.N[i]?=some x->σ[i]?=some (some v)->tT X.env.scope x->∃ u,RelV v u/\Look X.env s.heap m x u
 cell:∀ x c,X.env.cells.lookup x=some c->∃ v,s.heap.IsCell c v
 free:H X.env.locals=none
 gC:∀ x c,X.env.cells.lookup x=some c->H c=none
 pin:∀ p∈X.pn++pins,s.heap.get? p.1=some p.2/\H p.1=none/\p.1≠X.env.locals/\p.1∉X.fs/\∀ v,p.2.data ≠ .cell v
 az:bU X.prog X.w H s.heap
 len:σ.length=X.N.length
section
variable{X:Cx}{pins:List (Ye × Obj)}{σ:List (Option V)}{H H':Hp}{s:Yd}{h':aax}
theorem Cx.Ok.jK(ok:X.Ok){b:Ye}{o:Obj}(e:X.base.get? b=some o):b∉X.fs:=λhb=>by have:=(ok.gB.mem hb).1;rw[e] at this;cases this
theorem Inv.bs(I:Inv X pins σ H s):∀ b o,X.base.get? b=some o->s.heap.get? b=some o/\H b=none:=λb o e =>
 ⟨I.base.keep b o (I.ok.bs b o e).1 (I.ok.bs b o e).2 (I.ok.jK e) (I.ok.noex b o e),I.base.free b o (I.ok.bs b o e).1 (I.ok.bs b o e).2 (I.ok.noex b o e)⟩
theorem Inv.bk(I:Inv X pins σ H s):∀ b o,X.base.get? b=some o->s.heap.get? b=some o:=λb o e=>(I.bs b o e).1
theorem Inv.mod(I:Inv X pins σ H s):Mod X.K X.mg X.base:=I.ok.mod
theorem Inv.b6(I:Inv X pins σ H s):X.K.In s.heap:=I.ok.mod.kin.keeps I.bk
theorem Inv.lt(I:Inv X pins σ H s):X.env.locals<s.heap.objs.size:=let ⟨_,hn,_⟩:=I.loc;hn.lt
theorem Inv.sz(I:Inv X pins σ H s):X.s₀.heap.objs.size<=s.heap.objs.size:=X5 I.ok.above (abx I.lt)
theorem Inv.BL(I:Inv X pins σ H s)(h:s.heap.objs.size<=a):a∉X.fs:=λhb=>by obtain⟨_,o,ho,_⟩:=I.ok.gB.mem hb;exact absurd (Yp (X4 ho) (X5 I.sz h)) (Zk _)
theorem Inv.md(I:Inv X pins σ H s):∀ x c,X.env.cells.lookup x=some c->c≠X.env.locals:=λx c e z=>by obtain⟨v,o,ho,hd⟩:=I.cell x c e;obtain⟨m,⟨o',es,ep,cA,ig,_⟩,_⟩:=I.loc;rw[z,cA] at ho;cases ho;rw[ig] at hd;cases hd
theorem Inv.gB(I:Inv X pins σ H s):s.heap.FunFrames X.base X.outer:=by
 have all:∀ (l:List Env),(∀ b∈aX l,b∈X.fs)->X.s₀.heap.FunFrames X.base l->s.heap.FunFrames X.base l:=by
  intro l
  induction l with
  | nil=>intro _ _;trivial
  | cons env r ih =>
   intro hs hl;obtain⟨hk,⟨L,o,hf,hn,ho,hd⟩,hr⟩:=hl;have hL:L∈X.fs:=hs L (by unfold aX;rw[Zf,hf];exact aaB);obtain⟨sl,e⟩:=I.base.slot L o ho (I.ok.frf L hL) hL λz=>I.ok.exfs L z hL;exact⟨hk,⟨L,_,hf,hn,e,hd⟩,ih (λb hb=>hs b (by unfold aX;rw[Zf,hf];exact YU _ hb)) hr⟩
 exact all X.outer (λ_ hb=>hb) I.ok.gB
theorem Inv.stack(I:Inv X pins σ H s):s.heap.FunFrames X.base X.stack:=by
 rcases I.ok.stk with e|⟨e,hf⟩
 .rw[e];exact I.gB
 .rw[e];obtain⟨m,hn,_⟩:=I.loc;refine .cons (by rw[I.ok.kind];decide) hf hn ?_ I.gB;exact Heap.get?_none_of_le (X5 I.ok.bsz I.ok.above)
theorem Inv.mf(I:Inv X pins σ H s):∀ b∈aX X.stack,b∈X.env.locals::X.fs:=λb hb=>by
 rcases I.ok.stk with e|⟨e,hf⟩
 .rw[e] at hb;exact YU _ hb
 .rw[e] at hb;unfold aX at hb;rw[Zf,hf] at hb;exact hb
theorem Inv.pM(I:Inv X pins σ H s):∀ b∈aX X.stack,H b=none:=λb hb=>by
 rcases Yi.mp (I.mf b hb) with e|hb
 .rw[e];exact I.free
 .obtain⟨_,o,ho,_⟩:=I.ok.gB.mem hb;exact I.base.free b o ho (I.ok.frf b hb) λz=>I.ok.exfs b z hb
theorem Inv.step{g':Array GenState}{t':Nat}{d':Drawn}{ch:List Ye}(I:Inv X pins σ H s)
 (iV:∀ b∈ch,(b∈X.ex∨X.s₀.heap.objs.size<=b)/\b≠X.env.locals/\(∀ x c,X.env.cells.lookup x=some c->c≠b)/\∀ p∈X.pn++pins,p.1≠b)
 (keep:∀ b o,b≠X.env.locals->b∉X.fs->b∉ch->s.heap.get? b=some o->H b=none->h'.get? b=some o)
 (slot:∀ b o,b≠X.env.locals->b∈X.fs->b∉ch->s.heap.get? b=some o->H b=none->∃ sl,h'.get? b=some { o with slots:=sl }) (free:∀ b o,b∉ch->s.heap.get? b=some o->H b=none->H' b=none)
 (there:∀ b o,b∉ch->s.heap.get? b=some o->∃ o',h'.get? b=some o')
 (fU:∀ b xs,H b=some (.tup xs)->H' b=some (.tup xs)) (fk:∀ b o u,H b=some (.aO o u)->H' b=some (.aO o u)) (fV:∀ b ps,H b=some (.tbl ps)->∃ more,H' b=some (.tbl (ps++more)))
 (ns:∀ m,s.heap.Ns X.env.locals m->h'.Ns X.env.locals m) (az:bU X.prog X.w H' h') (hg:ac9 g') :
 Inv X pins σ H' { s with heap:=h',gens:=g',drawn:=d',toks:=t' }:=by
 have nO:∀ b o,X.s₀.heap.get? b=some o->b≠X.env.locals:=λb o e=>Yk (Yp (X4 e) I.ok.above);have tU:∀ b o,X.s₀.heap.get? b=some o->b∉X.ex->b∉ch:=λb o e hx hb=>by
  rcases (iV b hb).1 with z|z
  .exact hx z
  .exact absurd (Yp (X4 e) z) (Zk _)
 have cellK:∀ x c,X.env.cells.lookup x=some c->∀ v,s.heap.IsCell c v->h'.IsCell c v:=λx c e v ⟨o,ho,hd⟩=>by
  have kP:c∉ch:=λz=>(iV c z).2.2.1 x c e rfl;by_cases hc:c∈X.fs
  .obtain⟨sl,q⟩:=slot c o (I.md x c e) hc kP ho (I.gC x c e);exact⟨_,q,hd⟩
  .exact⟨o,keep c o (I.md x c e) hc kP ho (I.gC x c e),hd⟩
 refine⟨I.ok,I.os,hg,⟨λb o e n hb hx=>?_,λb o e n hb hx=>?_,λb o e n hx=>?_,λb o e hx=>?_,λb xs e=>fU b xs (I.base.fU b xs e),λb o xs e=>fk b o xs (I.base.fk b o xs e),λb ps e=>?_⟩,?_,λx c e=>?_,?_,λx c e=>?_,λp hp=>?_,az,I.len⟩
 .exact keep b o (nO b o e) hb (tU b o e hx) (I.base.keep b o e n hb hx) (I.base.free b o e n hx)
 .obtain⟨sl,e1⟩:=I.base.slot b o e n hb hx;obtain⟨fo,e2⟩:=slot b _ (nO b o e) hb (tU b o e hx) e1 (I.base.free b o e n hx);exact⟨fo,e2⟩
 .obtain⟨o',e1⟩:=I.base.there b o e hx;exact free b o' (tU b o e hx) e1 (I.base.free b o e n hx)
 .obtain⟨o',e1⟩:=I.base.there b o e hx;exact there b o' (tU b o e hx) e1
 .obtain⟨m1,e1⟩:=I.base.fV b ps e;obtain⟨m2,e2⟩:=fV b _ e1;exact⟨m1++m2,by rw[e2,adT]⟩
 .obtain⟨m,hn,hl⟩:=I.loc;refine⟨m,ns m hn,λi x v e1 e2 e3=>?_⟩;obtain⟨u,r,l⟩:=hl i x v e1 e2 e3;refine⟨u,r,?_⟩;rcases l with l|⟨k,c,e,z⟩
  .exact .inl l
  .exact .inr ⟨k,c,e,cellK x c e _ z⟩
 .obtain⟨v,z⟩:=I.cell x c e;exact⟨v,cellK x c e v z⟩
 .obtain⟨m,⟨o,_,_,ho,_⟩,_⟩:=I.loc;exact free _ o (λz=>(iV _ z).2.1 rfl) ho I.free
 .obtain⟨v,o,ho,hd⟩:=I.cell x c e;exact free c o (λz=>(iV c z).2.2.1 x c e rfl) ho (I.gC x c e)
 .obtain⟨e,n,ne,nf,d⟩:=I.pin p hp;have kP:p.1∉ch:=λz=>(iV p.1 z).2.2.2 p hp rfl;exact⟨keep p.1 p.2 ne nf kP e n,free p.1 p.2 kP e n,ne,nf,d⟩
theorem Inv.un(I:Inv X pins σ H s)(u:Un X.fs [] H H' s.heap h')(az:bU X.prog X.w H' h'):Inv X pins σ H' { s with heap:=h',toks:=t' }:=by
 obtain⟨m,⟨o,es,ep,ho,r⟩,_⟩:=id I.loc;obtain⟨sl,hL⟩:=u.any ho I.free (by simp);exact I.step (g':=s.gens) (d':=s.drawn) (ch:=[]) (λ_ z=>nomatch z) (λb o _ hb _ e n=>u.keep b o e n hb (by simp)) (λb o _ hb _ e n=>u.slot b o e n hb (by simp)) (λb o _ e n=>u.free b o e n (by simp)) (λb o _ e=>u.there b o e (by simp)) u.fU u.fk u.fV (λm' hm=>by
  obtain⟨o',es',pN,cA,r'⟩:=hm;rw[ho] at cA;cases cA;exact⟨_,es',pN,hL,r'⟩) az I.bare
theorem Inv.call(I:Inv X pins σ H s)(u:Un (aX X.stack) ch H H' s.heap h')(az:bU X.prog X.w H' h')(hg:ac9 g')(iV:∀ b∈ch,(b∈X.ex∨X.s₀.heap.objs.size<=b)/\b≠X.env.locals/\(∀ x c,X.env.cells.lookup x=some c->c≠b)/\∀ p∈X.pn++pins,p.1≠b) :
 Inv X pins σ H' { s with heap:=h',gens:=g',drawn:=d',toks:=t' }:=by
 obtain⟨m,⟨o,es,ep,ho,r⟩,_⟩:=id I.loc;obtain⟨sl,hL⟩:=u.any ho I.free λz=>(iV _ z).2.1 rfl;exact I.step (ch:=ch) iV (λb o hL hb hc e n=>u.keep b o e n (λz=>(Yi.mp (I.mf b z)).elim hL hb) hc) (λb o _ _ hc e n=>u.any e n hc) (λb o hc e n=>u.free b o e n hc) (λb o hc e=>u.there b o e hc) u.fU u.fk u.fV (λm' hm=>by
  obtain⟨o',es',pN,cA,r'⟩:=hm;rw[ho] at cA;cases cA;exact⟨_,es',pN,hL,r'⟩) az hg
theorem Inv.turned(I:Inv X pins σ H s)(k:∀ b o,b≠it->s.heap.get? b=some o->h'.get? b=some o)(hn:H it=none)(hL:it≠X.env.locals)(h1:it∈X.ex∨X.s₀.heap.objs.size<=it)(h2:∀ x c,X.env.cells.lookup x=some c->c≠it)(h3:∀ p∈X.pn++pins,p.1≠it):Inv X pins σ H { s with heap:=h',toks:=t' }:=by
 have BM:∀ b u,H b=some u->b≠it:=λb u e z=>by rw[z,hn] at e;cases e
 refine I.step (g':=s.gens) (d':=s.drawn) (ch:=[it]) (λb hb=>?_) (λb o _ _ hc e _=>k b o (λz=>hc (by simp[z])) e) (λb o _ _ hc e _=>⟨o.slots,k b o (λz=>hc (by simp[z])) e⟩) (λ_ _ _ _ n=>n)
  (λb o hc e=>⟨o,k b o (λz=>hc (by simp[z])) e⟩) (λ_ _ e=>e) (λ_ _ _ e=>e) (λb ps e=>⟨#[],by rw[e];simp⟩) (λm hm=>?_) (λb u e=>?_) I.bare
 .have e:b=it:=by simpa using hb
  subst e;exact⟨h1,hL,h2,h3⟩
 .obtain⟨o,es,ep,ho,r⟩:=hm;exact⟨o,es,ep,k _ o (Y1 hL) ho,r⟩
 .refine (I.az b u e).cK (λc v hc q=>k c v ?_ q) (λ_ q=>q) λ_ _ q=>q;rcases hc with z|z
  .rw[z];exact BM b u e
  .exact BM c _ z
theorem Inv.tok(I:Inv X pins σ H s)(t:Nat):Inv X pins σ H { s with toks:=t }:=I.un (h':=s.heap) (t':=t) Un.refl I.az
theorem Inv.kept(I:Inv X pins σ H s)(k:∀ b u,s.heap.get? b=some u->h'.get? b=some u):Inv X pins σ H { s with heap:=h',toks:=t' }:=I.un (Un.kept k) (I.az.kept k)
theorem Inv.laid(I:Inv X pins σ H s)(k:∀ b u,s.heap.get? b=some u->h'.get? b=some u)(hp:s.heap.objs.size<=a)(new:bK X.prog X.w (upd H a o) h' a o) :
 Inv X pins σ (upd H a o) { s with heap:=h',toks:=t' }:=I.un (Un.laid k hp (I.az.fresh hp)) (I.az.laid k hp new)
theorem Inv.write(I:Inv X pins σ H s)(mu:pL (H x))(he:e=x∨H e=some (.own x))(k:∀ b u,b≠e->s.heap.get? b=some u->h'.get? b=some u)(nN:∃ u,h'.get? e=some u)(new:bK X.prog X.w (upd H x o) h' x o):Inv X pins σ (upd H x o) { s with heap:=h',toks:=t' }:=I.un (Un.write mu he k nN) (I.az.write mu he k nN new)
theorem Inv.pO(I:Inv X pins σ H s)(h:∀ p∈Kl,s.heap.get? p.1=some p.2/\H p.1=none/\p.1≠X.env.locals/\p.1∉X.fs/\∀ v,p.2.data ≠ .cell v):Inv X Kl σ H s :=
 ⟨I.ok,I.os,I.bare,I.base,I.loc,I.cell,I.free,I.gC,λp hp=>(Yz.mp hp).elim (λz=>I.pin p (Zc _ z)) (h p),I.az,I.len⟩
theorem BN{N:List Str}(hN:N.Nodup){i j:Nat}{x:Str}(a:N[i]?=some x)(b:N[j]?=some x):i=j:=by obtain⟨h1,e1⟩:=X6.mp a;obtain⟨h2,e2⟩:=X6.mp b;exact (List.getElem_inj hN).mp (e1.trans e2.symm)
theorem Km(I:Inv X pins σ H s)(hN:X.N.Nodup)(hi:X.N[i]?=some x)(hx:Loc X.env.scope x)(r:RelV v u)(h:∀ s',Inv X pins (σ.set i (some v)) H s'->(∃ a,Heap.SameBut a s.heap s'.heap/\(a=X.env.locals∨X.env.cells.lookup x=some a))->Q () s')(hf:X.fn x=true∨X.env.scope.names.lookup x=some .local:=by first|exact .inl rfl|exact .inr rfl|assumption):Yr M A (storeName X.env x u) Q E s:=by
 obtain⟨m,hn,hl⟩:=id I.loc;have Kn:(X.env.scope.kind == .class || (X.env.scope.kind == .module && X.env.locals != X.env.globals))=false:=by rw[I.ok.kind];rfl
 have BO:i<σ.length:=by rw[I.len];exact (X6.mp hi).1
 have md:=I.md;have tracked:∀ {a:Ye} {h':aax},(∃ o,s.heap.get? a=some o/\H a=none)->Heap.SameBut a s.heap h'->bU X.prog X.w H h':=λ{a h'} ha hs b ob e=>by
  obtain⟨_,_,hfree⟩:=ha;refine (I.az b ob e).cK (λc w' hc q=>(hs.2 c ?_).trans q) (λ_ q=>q) λ_ _ q=>q;rintro rfl;rcases hc with rfl|hc
  .rw[hfree] at e;cases e
  .rw[hfree] at hc;cases hc
 rcases hx with hk|hk
 .refine wpAny_storeName_local hk hn (λh' kQ hs=>?_) Kn;obtain⟨oL,_,_,Ko,_⟩:=id hn;refine h _ ⟨I.ok,I.os,I.bare,⟨λb o e n hb hx=>?_,λb o e n hb hx=>?_,I.base.free,λb o e hx=>?_,I.base.fU,I.base.fk,I.base.fV⟩,⟨_,kQ,λj y v' e1 e2 e3=>?_⟩,λy c e=>?_,I.free,I.gC,λp hp=>?_,tracked ⟨oL,Ko,I.free⟩ hs,by simpa using I.len⟩ ⟨_,hs,.inl rfl⟩
  .exact (hs.2 b (Yk (Yp (X4 e) I.ok.above))).trans (I.base.keep b o e n hb hx)
  .obtain⟨sl,e1⟩:=I.base.slot b o e n hb hx;exact⟨sl,(hs.2 b (Yk (Yp (X4 e) I.ok.above))).trans e1⟩
  .obtain⟨o',e1⟩:=I.base.there b o e hx;exact⟨o',(hs.2 b (Yk (Yp (X4 e) I.ok.above))).trans e1⟩
  .by_cases hj:j=i
   .subst hj;rw[hi] at e1;cases e1;rw[acV BO] at e2;cases e2;exact⟨u,r,.inl ⟨hk,by simp⟩⟩
   .rw[adv (Y1 hj)] at e2;obtain⟨u',r',q⟩:=hl j y v' e1 e2 e3;refine⟨u',r',?_⟩;rcases q with ⟨k,e⟩|⟨k,c,e,z⟩
    .refine .inl ⟨k,?_⟩;have:y≠x:=λe=>hj (BN hN e1 (e ▸ hi));simp[this,e]
    .exact .inr ⟨k,c,e,z.sameBut hs (md y c e)⟩
  .obtain⟨w',z⟩:=I.cell y c e;exact⟨w',z.sameBut hs (md y c e)⟩
  .obtain⟨e,n,ne,nf,d⟩:=I.pin p hp;exact⟨(hs.2 p.1 ne).trans e,n,ne,nf,d⟩
 .have wA:X.fn x=true:=by
   rcases hf with z|z
   .exact z
   .rw[z] at hk;cases hk
  obtain⟨c,hc⟩:=I.ok.has x (.inl hk);obtain⟨w',z⟩:=I.cell x c hc;refine wpAny_storeName_cell I.ok.kind hk hc z (λh' jL hs=>?_);obtain⟨oc,hoc,hocd⟩:=id z;refine h { s with heap:=h' } ⟨I.ok,I.os,I.bare,⟨λb o e n hb hx=>?_,λb o e n hb hx=>?_,I.base.free,λb o e hx=>?_,I.base.fU,I.base.fk,I.base.fV⟩,⟨m,hn.sameBut hs (Y1 (md x c hc)),λj y v' e1 e2 e3=>?_⟩,λy c' e=>?_,I.free,I.gC,λp hp=>?_,tracked ⟨oc,hoc,I.gC x c hc⟩ hs,by simpa using I.len⟩ ⟨c,hs,.inr hc⟩
  .exact (hs.2 b (Yk (Yp (X4 e) (I.ok.cab x c wA hc)))).trans (I.base.keep b o e n hb hx)
  .obtain⟨sl,e1⟩:=I.base.slot b o e n hb hx;exact⟨sl,(hs.2 b (Yk (Yp (X4 e) (I.ok.cab x c wA hc)))).trans e1⟩
  .obtain⟨o',e1⟩:=I.base.there b o e hx;exact⟨o',(hs.2 b (Yk (Yp (X4 e) (I.ok.cab x c wA hc)))).trans e1⟩
  .by_cases hj:j=i
   .subst hj;rw[hi] at e1;cases e1;rw[acV BO] at e2;cases e2;exact⟨u,r,.inr ⟨.inl hk,c,hc,jL⟩⟩
   .rw[adv (Y1 hj)] at e2;obtain⟨u',r',q⟩:=hl j y v' e1 e2 e3;refine⟨u',r',?_⟩;rcases q with q|⟨k,c',e,z'⟩
    .exact .inl q
    .refine .inr ⟨k,c',e,z'.sameBut hs ?_⟩;rintro rfl;exact hj (BN hN e1 (I.ok.inj _ _ _ e hc ▸ hi))
  .by_cases tV:c'=c
   .subst tV;exact⟨_,jL⟩
   .obtain⟨w2,z2⟩:=I.cell y c' e;exact⟨w2,z2.sameBut hs tV⟩
  .obtain⟨e,n,ne,nf,d⟩:=I.pin p hp;refine⟨(hs.2 p.1 ?_).trans e,n,ne,nf,d⟩;intro q;rw[q,hoc] at e;have q':oc=p.2:=Option.some.inj e;exact d w' (by rw[<- q'];exact hocd)
theorem BP(I:Inv X pins σ H s)(hN:X.N.Nodup)(hi:X.N[i]?=some x)(hx:Loc X.env.scope x)(r:RelV v u)(h:∀ s',Inv X pins (σ.set i (some v)) H s'->Q () s')(hf:X.fn x=true∨X.env.scope.names.lookup x=some .local:=by first|exact .inl rfl|exact .inr rfl|assumption):Yr M A (storeName X.env x u) Q E s :=
 Km I hN hi hx r (λs' I' _=>h s' I') hf
theorem Inv.Kp(I:Inv X pins σ H s)(ho:s'.os=s.os)(u:Un (aX X.stack) ch H H' s.heap s'.heap)(az:bU X.prog X.w H' s'.heap)(hg:ac9 s'.gens)(iV:∀ b∈ch,(b∈X.ex∨X.s₀.heap.objs.size<=b)/\b≠X.env.locals/\(∀ x c,X.env.cells.lookup x=some c->c≠b)/\∀ p∈X.pn++pins,p.1≠b):Inv X pins σ H' s':=by obtain⟨h',g',d',t',o'⟩:=s';have e:o'=s.os:=ho;subst e;exact I.call (g':=g') (t':=t') (d':=d') u az hg iV
end
abbrev XK:=X7->Option Ye->Hp->Prop
abbrev St:=List (Option V)
abbrev VK:=V->Hp->Prop
abbrev TE:=St->Hp->VK->Prop
abbrev TT:=St->Hp->(Bool->Hp->Prop)->Prop
abbrev TA:=St->Hp->(List V->Hp->Prop)->Prop
structure Ends where
 nx:St->Hp->Prop
 rt:VK
 bk:St->Hp->Prop:=λ_ _=>False
 ct:St->Hp->Prop:=λ_ _=>False
abbrev TS:=Ends->St->Hp->Prop
def EP(X:Cx)(pins:List (Ye × Obj))(σ:St)(Q:VK)(u:X7)(s':Yd):Prop:=∃ v H',Inv X pins σ H' s'/\RelV v u/\Q v H'
def TP(X:Cx)(pins:List (Ye × Obj))(σ:St)(Q:Bool->Hp->Prop)(b:Bool)(s':Yd):Prop:=∃ H',Inv X pins σ H' s'/\Q b H'
def AP(X:Cx)(pins:List (Ye × Obj))(σ:St)(Q:List V->Hp->Prop)(us:List X7)(s':Yd):Prop:=∃ vs H',Inv X pins σ H' s'/\Vals vs us/\Q vs H'
def SP(X:Cx)(pins:List (Ye × Obj))(D:Ends)(f:Flow)(s':Yd):Prop :=
 match f with
 | .next=>∃ σ' H',Inv X pins σ' H' s'/\D.nx σ' H'
 | .brk=>∃ σ' H',Inv X pins σ' H' s'/\D.bk σ' H'
 | .cont=>∃ σ' H',Inv X pins σ' H' s'/\D.ct σ' H'
 | .ret u=>∃ v σ' H',Inv X pins σ' H' s'/\RelV v u/\D.rt v H'
def PE(X:Cx)(e:abD)(t:TE):Prop :=
 ∀ (pins:List (Ye × Obj)) (s:Yd) (σ:St) (H:Hp) (Q:VK),Inv X pins σ H s->t σ H Q->Yr (model X.prog X.w) X.A (eval e X.env) (EP X pins σ Q) X.xe s
def PT(X:Cx)(e:abD)(t:TT):Prop :=
 ∀ (pins:List (Ye × Obj)) (s:Yd) (σ:St) (H:Hp) (Q:Bool->Hp->Prop),Inv X pins σ H s->t σ H Q->Yr (model X.prog X.w) X.A (afJ e X.env (eval e X.env)) (TP X pins σ Q) X.xe s
def PW(X:Cx)(e:abD)(t:TT):Prop :=
 ∀ (whole:Sem X7) (pins:List (Ye × Obj)) (s:Yd) (σ:St) (H:Hp) (Q:Bool->Hp->Prop),Inv X pins σ H s->t σ H Q->Yr (model X.prog X.w) X.A (afJ e X.env whole) (TP X pins σ Q) X.xe s
theorem PW.pt(h:PW X e t):PT X e t:=h _
def PA(X:Cx)(es:List abD)(t:TA):Prop :=
 ∀ (pos:Pos) (pins:List (Ye × Obj)) (s:Yd) (σ:St) (H:Hp) (Q:List V->Hp->Prop),Inv X pins σ H s->t σ H Q->Yr (model X.prog X.w) X.A (spliced (ZZ pos (Yv es X.env))) (AP X pins σ Q) X.xe s
def PS(X:Cx)(st:ZO)(t:TS):Prop :=
 ∀ (pins:List (Ye × Obj)) (s:Yd) (σ:St) (H:Hp) (D:Ends),Inv X pins σ H s->t D σ H->Yr (model X.prog X.w) X.A (exec st X.env) (SP X pins D) X.xe s
def aP(X:Cx)(st:List ZO)(t:TS):Prop :=
 ∀ (pins:List (Ye × Obj)) (s:Yd) (σ:St) (H:Hp) (D:Ends),Inv X pins σ H s->t D σ H->Yr (model X.prog X.w) X.A (execs st X.env) (SP X pins D) X.xe s
theorem aB(h:Yr M A t Q E s)(hQ:∀ a s,Q a s->Q' a s):Yr M A t Q' E s:=Zl h hQ λ_ _ x=>x
section
variable{X:Cx}
def wB(i:Nat):TE:=λσ H Q=>∃ v,σ[i]?=some (some v)/\Q v H
def tC(v:V):TE:=λ_ H Q=>Q v H
theorem Kq(hN:X.N[i]?=some x)(hv:tT X.env.scope x)(hd:(x == ("__debug__" : Str))=false:=by decide)(fq:(x == ("__classdict__" : Str))=false:=by decide):PE X (.Name x pos) (wB i):=by
 intro pins s σ H Q I h;obtain⟨v,e,h⟩:=h;obtain⟨m,hn,hl⟩:=I.loc;obtain⟨u,r,l⟩:=hl i x v hN e hv;have fin:EP X pins σ Q u s:=⟨v,H,I,r,h⟩
 rcases l with ⟨hk,hm⟩|⟨hk,c,hc,pP⟩
 .exact afo (wpAny_loadName_local I.ok.kind hk hn hm fin) hd
 .rcases hk with hk|hk
  .exact afo (wpAny_loadName_cell I.ok.kind hk hc pP fin) hd
  .exact afo (wpAny_loadName_free I.ok.kind hk hc pP fin fq) hd
theorem af:PE X (.Constant (.int i) j pos) (tC (.int i)):=λ_ _ _ H _ I h=>wpAny_Constant_int ⟨.int i,H,I.tok _,⟨_,rfl⟩,h⟩
theorem eY:PE X (.Constant (.bool b) j pos) (tC (.bl b)):=λ_ _ _ H _ I h=>Constant_bool ⟨.bl b,H,I,rfl,h⟩
theorem bq:PE X (.Constant .none j pos) (tC .non):=λ_ _ _ H _ I h=>adU ⟨.non,H,I,rfl,h⟩
theorem br:PE X (.Constant (.str x) j pos) (tC (.str x)):=λ_ _ _ H _ I h=>Calls.Constant_str ⟨.str x,H,I.tok _,⟨_,rfl⟩,h⟩
def Gl(X:Cx)(x:Str):Prop:=X.env.kindOf x=some .globalImplicit
theorem tW(I:Inv X pins σ H s)(hg:Gl X x)(hm:X.mg x=some u)(h:Q u s)(hd:(x == ("__debug__" : Str))=false:=by decide):Yr (model X.prog X.w) X.A (eval (.Name x pos) X.env) Q E s :=
 ab4 I.ok.kind hg (Calls.loadGlobal_global (by rw[I.ok.glob];exact I.mod.glob.keeps I.bk) hm h) hd
theorem ft(I:Inv X pins σ H s)(hg:Gl X x)(hm:X.mg x=none)(hv:YO x=some u)(h:Q u s)(hn:x ≠ "__name__" := by decide)(hd:(x == ("__debug__" : Str))=false:=by decide):Yr (model X.prog X.w) X.A (eval (.Name x pos) X.env) Q E s:=by obtain⟨mb,h1,h2⟩:=I.mod.blt;exact ab4 I.ok.kind hg (Calls.loadGlobal_builtin (by rw[I.ok.glob];exact I.mod.glob.keeps I.bk) hm (by rw[I.ok.blt];exact h1.keeps I.bk) ((h2 x hn).trans hv) h) hd
theorem BQ(hg:Gl X x)(hm:X.mg x=some u)(r:RelV v u)(hd:(x == ("__debug__" : Str))=false:=by decide):PE X (.Name x pos) (tC v) :=
 λ_ _ _ H _ I h=>tW I hg hm ⟨v,H,I,r,h⟩ hd
theorem kR(hg:Gl X x)(hm:X.mg x=none)(hv:YO x=some u)(r:RelV v u)(hn:x ≠ "__name__" := by decide)(hd:(x == ("__debug__" : Str))=false:=by decide):PE X (.Name x pos) (tC v) :=
 λ_ _ _ H _ I h=>ft I hg hm hv ⟨v,H,I,r,h⟩ hn hd
variable{a b:abD}{ta tb:TE}{pos:Pos}
def PC(X:Cx)(op:CmpOp)(a b:abD)(t:TE):Prop :=
 ∀ (pins:List (Ye × Obj)) (s:Yd) (σ:St) (H:Hp) (Q:VK),Inv X pins σ H s->t σ H Q ->
  Yr (model X.prog X.w) X.A (eval a X.env) (λv s₁=>Yr (model X.prog X.w) X.A (eval b X.env) (λu s₂=>Yr (model X.prog X.w) X.A (Zd op v u) (EP X pins σ Q) X.xe s₂) X.xe s₁) X.xe s
theorem BR(b:abD)(h:op ≠ .In)(h2:op ≠ .NotIn):aad op b=false:=by
 have e1:(op == CmpOp.In)=false:=by cases op<;>first|rfl|exact absurd rfl h
 have e2:(op == CmpOp.NotIn)=false:=by cases op<;>first|rfl|exact absurd rfl h2
 cases b<;>simp[aad,e1,e2]
def BS(ta:TE):TE:=λσ H Q=>ta σ H λx H1=>Q (.bl (decide (x = .non))) H1
def BU(ta:TE):TE:=λσ H Q=>ta σ H λx H1=>Q (.bl (!decide (x = .non))) H1
theorem RelV.BV(r:RelV x v):(v == Value.none)=decide (x = .non):=by
 cases x with
 | non=>cases r;rfl
 | bl _=>cases r;rfl
 | int _=>obtain⟨t,rfl⟩:=r;rfl
 | str _=>obtain⟨t,rfl⟩:=r;rfl
 | byt _=>obtain⟨t,rfl⟩:=r;rfl
 | flt _=>obtain⟨t,rfl⟩:=r;rfl
 | ref _=>cases r;rfl
 | ty _=>cases r;rfl
theorem pQ(ha:PE X a ta):PC X .Is a (.Constant .none j pos') (BS ta):=by intro pins s σ H Q I h;refine aB (ha pins s σ H _ I h) λv s1 zq=>?_;obtain⟨x,H1,I1,r1,q1⟩:=zq;exact adU (is_none_gen ⟨.bl _,H1,I1,by rw[r1.BV];rfl,q1⟩)
theorem pR(ha:PE X a ta):PC X .IsNot a (.Constant .none j pos') (BU ta):=by intro pins s σ H Q I h;refine aB (ha pins s σ H _ I h) λv s1 zq=>?_;obtain⟨x,H1,I1,r1,q1⟩:=zq;exact adU (isnot_none_gen ⟨.bl _,H1,I1,by rw[r1.BV];rfl,q1⟩)
def tB(t:TE):TT:=λσ H Q=>t σ H λx H1=>∃ c,x = .bl c/\Q c H1
theorem kS(h:PC X op a b t)(h1:aad op b=false:=by first|exact BR _ (by decide) (by decide)|rfl):PE X (.Compare a [op] [b] pos) t:=λpins s σ H Q I hw=>wpAny_Compare1 (h pins s σ H Q I hw) h1
theorem wC(h:PC X op a b t)(h1:aad op b=false:=by first|exact BR _ (by decide) (by decide)|rfl):PT X (.Compare a [op] [b] pos) (tB t):=by intro pins s σ H Q I hw;refine ada (aB (h pins s σ H _ I hw) λv s1 h1=>aB h1 λu s2 h2=>aB h2 λc s3 zq=>?_) h1;obtain⟨x,H1,I1,r1,q1⟩:=zq;obtain⟨d,rfl,q⟩:=q1;cases r1;exact YR ⟨H1,I1,q⟩
theorem Kr(h:PE X e t)(he:∀ whole,afJ e X.env whole=(do let v <- whole;aeg e.pos;holding [v] (truthy v)):=by intro _;rfl):PT X e (tB t):=by intro pins s σ H Q I hw;refine isTrue_plain (aB (h pins s σ H _ I hw) λv s1 zq=>?_) (he _);obtain⟨x,H1,I1,r1,q1⟩:=zq;obtain⟨d,rfl,q⟩:=q1;cases r1;exact YR ⟨H1,I1,q⟩
variable{tA tX:TT}{rest:List abD}
def BW(t u:TT):TT:=λσ H Q=>t σ H λc H1=>if c=true then u σ H1 Q else Q false H1
def BX(t u:TT):TT:=λσ H Q=>t σ H λc H1=>if c=true then Q true H1 else u σ H1 Q
def BY(t:TT):TT:=λσ H Q=>t σ H λc H1=>Q (!c) H1
theorem jM(ha:PT X a tA):PW X (.BoolOp .And [a] pos) tA:=by
 intro wh pins s σ H Q I h;refine isTrue_and (aB (ha pins s σ H Q I h) λc s1 e=>?_);cases c with
 | true=>exact isTrue_and_nil e
 | false=>exact e
theorem dO(ha:PT X a tA):PW X (.BoolOp .Or [a] pos) tA:=by
 intro wh pins s σ H Q I h;refine isTrue_or (aB (ha pins s σ H Q I h) λc s1 e=>?_);cases c with
 | false=>exact isTrue_or_nil e
 | true=>exact e
theorem iW(ha:PT X a tA)(hb:PW X (.BoolOp .And (b::rest) pos) tX):PW X (.BoolOp .And (a::b::rest) pos) (BW tA tX):=by
 intro wh pins s σ H Q I h;refine isTrue_and (aB (ha pins s σ H _ I h) λc s1 zq=>?_);obtain⟨H1,I1,q1⟩:=zq;cases c with
 | true=>exact hb wh pins s1 σ H1 Q I1 q1
 | false=>exact⟨H1,I1,q1⟩
theorem cf(ha:PT X a tA)(hb:PW X (.BoolOp .Or (b::rest) pos) tX):PW X (.BoolOp .Or (a::b::rest) pos) (BX tA tX):=by
 intro wh pins s σ H Q I h;refine isTrue_or (aB (ha pins s σ H _ I h) λc s1 zq=>?_);obtain⟨H1,I1,q1⟩:=zq;cases c with
 | true=>exact⟨H1,I1,q1⟩
 | false=>exact hb wh pins s1 σ H1 Q I1 q1
theorem cB(ha:PT X a tA):PT X (.UnaryOp .Not a pos) (BY tA):=by intro pins s σ H Q I h;exact isTrue_not (ha pins s σ H (λc H1=>Q (!c) H1) I h)
def BZ(ta tb:TE):TE:=λσ H Q=>ta σ H λx H1=>∃ c,x = .bl c/\if c=true then tb σ H1 Q else Q (.bl false) H1
def B0(ta tb:TE):TE:=λσ H Q=>ta σ H λx H1=>∃ c,x = .bl c/\if c=true then Q (.bl true) H1 else tb σ H1 Q
def B1(ta:TE):TE:=λσ H Q=>ta σ H λx H1=>∃ c,x = .bl c/\Q (.bl (!c)) H1
theorem gD(h:PE X a t):PE X (.BoolOp op [a] pos) t:=λpins s σ H Q I hw=>BoolOp_one (h pins s σ H Q I hw)
theorem Ks(ha:PE X a ta)(hb:PE X (.BoolOp .And (b::rest) pos) tb):PE X (.BoolOp .And (a::b::rest) pos) (BZ ta tb):=by
 intro pins s σ H Q I h;refine BoolOp_and (aB (ha pins s σ H _ I h) λv s1 zq=>?_);obtain⟨x,H1,I1,r1,q1⟩:=zq;obtain⟨c,rfl,q1⟩:=q1;cases r1;refine YR ?_;cases c with
 | true=>exact hb pins s1 σ H1 Q I1 q1
 | false=>exact⟨.bl false,H1,I1,rfl,q1⟩
theorem Kt(ha:PE X a ta)(hb:PE X (.BoolOp .Or (b::rest) pos) tb):PE X (.BoolOp .Or (a::b::rest) pos) (B0 ta tb):=by
 intro pins s σ H Q I h;refine BoolOp_or (aB (ha pins s σ H _ I h) λv s1 zq=>?_);obtain⟨x,H1,I1,r1,q1⟩:=zq;obtain⟨c,rfl,q1⟩:=q1;cases r1;refine YR ?_;cases c with
 | false=>exact hb pins s1 σ H1 Q I1 q1
 | true=>exact⟨.bl true,H1,I1,rfl,q1⟩
theorem Ku(ha:PE X a ta):PE X (.UnaryOp .Not a pos) (B1 ta):=by intro pins s σ H Q I h;refine UnaryOp_ (aB (ha pins s σ H _ I h) λv s1 zq=>?_);obtain⟨x,H1,I1,r1,q1⟩:=zq;obtain⟨c,rfl,q1⟩:=q1;cases r1;exact not_of (YR ⟨.bl (!c),H1,I1,rfl,q1⟩)
def B2(t:TT)(ta tb:TE):TE:=λσ H Q=>t σ H λc H1=>if c=true then ta σ H1 Q else tb σ H1 Q
theorem iX(hc:PT X c tA)(ha:PE X a ta)(hb:PE X b tb):PE X (.IfExp c a b pos) (B2 tA ta tb):=by
 intro pins s σ H Q I h;refine wpAny_IfExp (aB (hc pins s σ H _ I h) λd s1 zq=>?_);obtain⟨H1,I1,q1⟩:=zq;cases d with
 | true=>exact ha pins s1 σ H1 Q I1 q1
 | false=>exact hb pins s1 σ H1 Q I1 q1
end
def ai(K:XW)(H:Hp)(a:Ye)(xs:List V):Prop :=
 Rd H a (.lst xs) ∨
  ∃ (o:Obj) (aq:Array X7) (n:Nat),K.lookup a=some o/\o.cls = .type "list" /\ o.dict=none/\o.data = .seq aq n/\aq.size<=Yt/\Vals xs aq.toList
def ah(K:XW)(H:Hp)(a:Ye)(xs:List V):Prop :=
 Rd H a (.tup xs) ∨
  ∃ (o:Obj) (aq:Array X7) (n:Nat),K.lookup a=some o/\o.cls = .type "tuple" /\ o.data = .seq aq n/\aq.size<=Yt/\Vals xs aq.toList
noncomputable def Kv:X7->Option V
 | .none=>some .non
 | .bool b=>some (.bl b)
 | .int i _=>some (.int i)
 | .str x _=>some (.str x)
 | .bytes b _=>some (.byt b)
 | .float b _=>some (.flt b)
 | .ref a=>some (.ref a)
 | .type n=>some (.ty n)
 | _=>none
theorem RelV.abs(r:RelV x u):Kv u=some x:=by
 cases x with
 | non=>cases r;rfl
 | bl _=>cases r;rfl
 | int _=>obtain⟨t,rfl⟩:=r;rfl
 | str _=>obtain⟨t,rfl⟩:=r;rfl
 | byt _=>obtain⟨t,rfl⟩:=r;rfl
 | flt _=>obtain⟨t,rfl⟩:=r;rfl
 | ref _=>cases r;rfl
 | ty _=>cases r;rfl
theorem RelV.inj(r:RelV x u)(q:RelV y u):x=y:=Option.some.inj (r.abs.symm.trans q.abs)
theorem Vals.inj:∀ {xs ys:List V} {us:List X7},Vals xs us->Vals ys us->xs=ys
 | _,_,_,.nil,.nil=>rfl
 | _,_,_,.cons r t,.cons r' t'=>by rw[r.inj r',Vals.inj t t']
section
theorem ai.of{K:XW}(h:H a=some (.lst xs)):ai K H a xs:=.inl (.inl h)
theorem ah.of{K:XW}(h:H a=some (.tup xs)):ah K H a xs:=.inl (.inl h)
theorem Inv.list(I:Inv X pins σ H s)(h:ai X.K H a xs):∃ aq:List X7,Vals xs aq/\PlainL s.heap a aq.toArray/\xs.length<=Yt:=by
 rcases h with h|⟨o,aq,n,hk,hc,hd,hs,hz,r⟩
 .obtain⟨z,aq,n,r,e⟩:=h.ok I.az;exact⟨aq,r,⟨_,n,e,rfl,rfl,rfl⟩,z⟩
 .refine⟨aq.toList,r,⟨o,n,I.b6 a o hk,hc,hd,by simpa using hs⟩,?_⟩;have e:=r.length;simp only[aat] at e;omega
theorem Inv.tuple(I:Inv X pins σ H s)(h:ah X.K H a xs):∃ aq:List X7,Vals xs aq/\IsTup s.heap a aq.toArray/\xs.length<=Yt:=by
 rcases h with h|⟨o,aq,n,hk,hc,hs,hz,r⟩
 .obtain⟨z,aq,r,p⟩:=h.ok I.az;exact⟨aq,r,p,z⟩
 .refine⟨aq.toList,r,⟨o,I.b6 a o hk,hc,n,by simpa using hs⟩,?_⟩;have e:=r.length;simp only[aat] at e;omega
theorem Inv.pS(I:Inv X pins σ H s)(h:ai X.K H a xs)(h':ai X.K H a ys):xs=ys:=by
 obtain⟨aq,r,⟨o,n,e,_,_,d⟩,_⟩:=I.list h;obtain⟨its',r',⟨o',n',e',_,_,d'⟩,_⟩:=I.list h';rw[e] at e';cases e';rw[d] at d';injection d' with d1 _;have:aq=its':=by simpa using congrArg aeB d1
 subst this;exact r.inj r'
theorem Inv.Kw(I:Inv X pins σ H s)(h:ah X.K H a xs)(h':ah X.K H a ys):xs=ys:=by
 obtain⟨aq,r,⟨o,e,_,n,d⟩,_⟩:=I.tuple h;obtain⟨its',r',⟨o',e',_,n',d'⟩,_⟩:=I.tuple h';rw[e] at e';cases e';rw[d] at d';injection d' with d1 _;have:aq=its':=by simpa using congrArg aeB d1
 subst this;exact r.inj r'
end
noncomputable abbrev Cx.iY(X:Cx)(E:X7->Yd->Prop):Cx:={ X with xe:=E }
noncomputable abbrev Cx.nP(X:Cx):Cx:=X.iY λ_ _=>False
theorem Cx.Ok.iY{X:Cx}(ok:X.Ok)(E:X7->Yd->Prop):(X.iY E).Ok :=
 ⟨ok.mod,ok.kind,ok.glob,ok.blt,ok.above,ok.inj,ok.has,ok.cab,ok.hd,ok.frames,ok.stk,ok.exf,ok.bs,ok.bsz,ok.noex,ok.exfs,ok.gB,ok.frf⟩
theorem Cx.Ok.kT{X:Cx}{E:X7->Yd->Prop}(ok:(X.iY E).Ok):X.Ok :=
 ⟨ok.mod,ok.kind,ok.glob,ok.blt,ok.above,ok.inj,ok.has,ok.cab,ok.hd,ok.frames,ok.stk,ok.exf,ok.bs,ok.bsz,ok.noex,ok.exfs,ok.gB,ok.frf⟩
section
theorem Inv.iY(I:Inv X pins σ H s)(E:X7->Yd->Prop):Inv (X.iY E) pins σ H s:=⟨I.ok.iY E,I.os,I.bare,I.base,I.loc,I.cell,I.free,I.gC,I.pin,I.az,I.len⟩
theorem Inv.kT(I:Inv (X.iY E) pins σ H s):Inv X pins σ H s:=⟨I.ok.kT,I.os,I.bare,I.base,I.loc,I.cell,I.free,I.gC,I.pin,I.az,I.len⟩
theorem SP.kT(h:SP (X.iY E) pins D f s'):SP X pins D f s':=by
 cases f with
 | next=>obtain⟨σ',H',I,q⟩:=h;exact⟨σ',H',I.kT,q⟩
 | brk=>obtain⟨σ',H',I,q⟩:=h;exact⟨σ',H',I.kT,q⟩
 | cont=>obtain⟨σ',H',I,q⟩:=h;exact⟨σ',H',I.kT,q⟩
 | ret u=>obtain⟨v,σ',H',I,r,q⟩:=h;exact⟨v,σ',H',I.kT,r,q⟩
theorem aP.nP{st:List ZO}{t:TS}(h:aP X.nP st t):aP X st t:=λpins s σ H D I hw =>
 Zl (h pins s σ H D (I.iY _) hw) (λ_ _ q=>q.kT) λ_ _ z=>aac z
end
section
variable{X:Cx}{st:ZO}{rest:List ZO}{t u:TS}{e:abD}{te:TE}{pos:Pos}
def B3:TS:=λD σ H=>D.nx σ H
def tY(t u:TS):TS:=λD σ H=>t { D with nx:=u D } σ H
theorem aJ:aP X [] B3:=λ_ _ σ H _ I h=>adb ⟨σ,H,I,h⟩
theorem au(h1:PS X st t)(h2:aP X rest u):aP X (st::rest) (tY t u):=by
 intro pins s σ H D I h;refine aeG (aB (h1 pins s σ H { D with nx:=u D } I h) λf s1 q=>?_);cases f with
 | next =>
  obtain⟨σ',H',I',q⟩:=q;exact h2 pins s1 σ' H' D I' q
 | ret v=>exact q
 | brk=>exact q
 | cont=>exact q
theorem ay(h1:PS X st t):aP X [st] t:=by
 intro pins s σ H D I h;refine aeG (aB (h1 pins s σ H D I h) λf s1 q=>?_);cases f with
 | next=>exact adb q
 | ret v=>exact q
 | brk=>exact q
 | cont=>exact q
theorem Inv.quiet(I:Inv X pins σ H s):interactive X.env=false:=by simp[interactive,I.ok.kind]
def B4(te:TE):TS:=λD σ H=>te σ H λ_ H1=>D.nx σ H1
theorem fD(he:PE X e te)(hs:abL e none pos.line X.env=pure false:=by rfl):PS X (.Expr e pos) (B4 te):=by intro pins s σ H D I h;exact wpAny_Expr_any (aB (he pins s σ H _ I h) λv s1 ⟨x,H1,I1,r1,q1⟩=>⟨σ,H1,I1,q1⟩) I.quiet hs
def B5(te:TE):TS:=λD σ H=>te σ H D.rt
theorem aA(he:PE X e te):PS X (.Return (some e) pos) (B5 te):=by intro pins s σ H D I h;exact wpAny_Return_some (aB (he pins s σ H _ I h) λv s1 ⟨x,H1,I1,r1,q1⟩=>⟨x,σ,H1,I1,r1,q1⟩)
def B6(c:TT)(t u:TS):TS:=λD σ H=>c σ H λb H1=>if b=true then t D σ H1 else u D σ H1
theorem aK(hc:PT X c tc)(ha:aP X a t)(hb:aP X b u):PS X (.If c a b pos) (B6 tc t u):=by
 intro pins s σ H D I h;refine wpAny_If (aB (hc pins s σ H _ I h) λd s1 zq=>?_);obtain⟨H1,I1,q1⟩:=zq;cases d with
 | true=>exact ha pins s1 σ H1 D I1 q1
 | false=>exact hb pins s1 σ H1 D I1 q1
end
abbrev TG:=V->St->Hp->(St->Hp->Prop)->Prop
abbrev pU:=List V->St->Hp->(St->Hp->Prop)->Prop
def PG(X:Cx)(target:abD)(t:TG):Prop :=
 ∀ (pins:List (Ye × Obj)) (s:Yd) (σ:St) (H:Hp) (v:V) (u:X7) (Q:St->Hp->Prop),Inv X pins σ H s->RelV v u->t v σ H Q ->
  Yr (model X.prog X.w) X.A (assign target X.env u) (λ_ s'=>∃ σ' H',Inv X pins σ' H' s'/\Q σ' H') X.xe s
def tZ(X:Cx)(ts:List abD)(t:pU):Prop :=
 ∀ (pins:List (Ye × Obj)) (s:Yd) (σ:St) (H:Hp) (vs:List V) (us:List X7) (Q:St->Hp->Prop),Inv X pins σ H s->Vals vs us->t vs σ H Q ->
  Yr (model X.prog X.w) X.A (assignInOrder ((aco ts X.env).map (·.2)) us) (λ_ s'=>∃ σ' H',Inv X pins σ' H' s'/\Q σ' H') X.xe s
abbrev B7:=V->V->V->Hp->(Hp->Prop)->Prop
def B8(X:Cx)(t:B7):Prop :=
 ∀ (pins:List (Ye × Obj)) (s:Yd) (σ:St) (H:Hp) (o i v:V) (ov iv u:X7) (Q:Hp->Prop),Inv X pins σ H s->RelV o ov->RelV i iv->RelV v u->t o i v H Q ->
  Yr (model X.prog X.w) X.A (setItem ov iv u) (λ_ s'=>∃ H',Inv X pins σ H' s'/\Q H') X.xe s
section
def cg(i:Nat):TG:=λv σ H Q=>Q (σ.set i (some v)) H
theorem fW(hN:X.N.Nodup)(hi:X.N[i]?=some x)(hx:Loc X.env.scope x)(hf:X.fn x=true∨X.env.scope.names.lookup x=some .local:=by first|exact .inl rfl|exact .inr rfl|assumption):PG X (.Name x pos) (cg i):=by intro pins s σ H v u Q I r h;exact wpAny_assign_Name (BP I hN hi hx r (λs' I'=>⟨_,H,I',h⟩) hf)
def iZ:pU:=λvs σ H Q=>vs=[]/\Q σ H
def cU(t:TG)(u:pU):pU:=λvs σ H Q=>∃ v r,vs=v::r/\t v σ H λσ' H'=>u r σ' H' Q
theorem jN:tZ X [] iZ:=by intro pins s σ H vs us Q I r h;obtain⟨e,h⟩:=h;subst e;cases r;exact assignInOrder_nil ⟨σ,H,I,h⟩
theorem dF(h1:PG X e t)(h2:tZ X es u)(hs:(aco (e::es) X.env).map (·.2)=assign e X.env::(aco es X.env).map (·.2):=by rfl):tZ X (e::es) (cU t u):=by
 intro pins s σ H vs us Q I r h;obtain⟨v,vr,e1,h⟩:=h;subst e1;cases r with
 | cons r rr =>
  rw[hs];refine assignInOrder_cons (aB (h1 pins s σ H _ _ _ I r h) λ_ s1 zq=>?_);obtain⟨σ1,H1,I1,q1⟩:=zq;exact h2 pins s1 σ1 H1 _ _ Q I1 rr q1
def jO(K:XW)(n:Nat)(t:pU):TG:=λv σ H Q=>∃ a xs,v = .ref a/\ah K H a xs/\xs.length=n/\t xs σ H Q
theorem jP(hc:X.calm=true)(h:tZ X es t)(hn:(aco es X.env).length=n:=by rfl)(bV:(aco es X.env).findIdx? (·.1)=none:=by rfl):PG X (.Tuple es k pos) (jO X.K n t):=by intro pins s σ H v u Q I r hw;obtain⟨a,xs,e1,hq,hl,hw⟩:=hw;subst e1;cases r;obtain⟨aq,rv,ht,hz⟩:=I.tuple hq;refine assign_Tuple_tuple (I.ok.hd hc) ht (by simp[hn,<- hl,rv.length]) bV λh' hx=>?_;have I1:Inv X pins σ H { s with heap:=h' }:=I.kept (t':=s.toks) λb o e=>hx b o (Yk (X4 e)) e;exact h pins _ σ H xs _ Q I1 (by simpa using rv) hw
def B9(to ti:TE)(t:B7):TG:=λv σ H Q=>to σ H λo H1=>ti σ H1 λi H2=>t o i v H2 λH3=>Q σ H3
theorem wD(ho:PE X o to)(hi:PE X i ti)(hs:B8 X t)(ha:∀ v,assign (.Subscript o i pos) X.env v=(do
 let ov <- holding [v] (eval o X.env);let iv <- holding [v,ov] (eval i X.env)
 aeg pos
 holding [v,ov,iv] (setItem ov iv v)
 release [v,ov,iv] []):=by intro _;rfl):PG X (.Subscript o i pos) (B9 to ti t):=by
 intro pins s σ H v u Q I r h;rw[ha];refine XX (Zz (aB (ho pins s σ H _ I h) λov s1 zq=>?_));obtain⟨x,H1,I1,r1,q1⟩:=zq;refine XX (Zz (aB (hi pins s1 σ H1 _ I1 q1) λiv s2 zq=>?_));obtain⟨y,H2,I2,r2,q2⟩:=zq;refine XX (adV (XX (Zz (aB (hs pins s2 σ H2 x y v ov iv u _ I2 r1 r2 r q2) λ_ s3 zq=>?_))));obtain⟨H3,I3,q3⟩:=zq;exact wpAny_release ⟨σ,H3,I3,q3⟩
def t4(te:TE)(g:TG):TS:=λD σ H=>te σ H λx H1=>g x σ H1 D.nx
theorem wF(he:PE X e te)(hg:PG X tg g)(hs:swapsWithSole [tg] e pos.line X.env=pure false:=by rfl)(hw:swappedStores [tg] e X.env=pure none:=by rfl)(h1:(aco [tg] X.env).map (·.2)=[assign tg X.env]:=by rfl):PS X (.Assign [tg] e pos) (t4 te g):=by intro pins s σ H D I h;refine wpAny_Assign_stores (aB (he pins s σ H _ I h) λv s1 zq=>?_) hs hw;obtain⟨x,H1,I1,r1,q1⟩:=zq;rw[h1];exact aB (hg pins s1 σ H1 x v _ I1 r1 q1) λ_ s2 q=>q
theorem ik(hN:X.N.Nodup)(hi:X.N[i]?=some x)(hx:Loc X.env.scope x)(he:PE X e te)(hs:abL e (some (.Name x pos')) pos.line X.env=pure false:=by rfl)(hf:X.fn x=true∨X.env.scope.names.lookup x=some .local:=by first|exact .inl rfl|exact .inr rfl|assumption) :
 PS X (.Assign [.Name x pos'] e pos) (t4 te (cg i)):=by
 intro pins s σ H D I h;refine wpAny_Assign_Name (aB (he pins s σ H _ I h) λv s1 zq=>?_) hs;obtain⟨y,H1,I1,r1,q1⟩:=zq;exact BP I1 hN hi hx r1 (λs2 I2=>⟨_,H1,I2,q1⟩) hf
end
structure It where
 go:Nat->Hp->Prop
 yld:Nat->Hp->V->Hp->Prop
 stop:Nat->Hp->Prop
def cV(X:Cx)(pins:List (Ye × Obj))(H:Hp)(b:Ye):Prop :=
 H b=none/\b≠X.env.locals/\b∉X.fs/\(b∈X.ex∨X.s₀.heap.objs.size<=b)/\(∀ x c,X.env.cells.lookup x=some c->c≠b)/\∀ p∈X.pn++pins,p.1≠b
theorem Inv.gE(I:Inv X pins σ H s)(hb:s.heap.objs.size<=b)(hn:H' b=none):cV X pins H' b:=by
 refine⟨hn,Y7 (Yp I.lt hb),I.BL hb,.inr (X5 I.sz hb),λx c e z=>?_,λp hp z=>?_⟩
 .obtain⟨v,q⟩:=I.cell x c e;exact absurd (Yp q.lt (by rw[z];exact hb)) (Zk _)
 .exact absurd (Yp (X4 (I.pin p hp).1) (by rw[z];exact hb)) (Zk _)
structure Turn(P:Y0)(w:Zw)(K:XW)(tg:abD)(J:It)(fp:List Ye)(it:Ye)(tn:Nat->aax->Prop):Prop where
 mem:it∈fp
 obj:∀ i h,tn i h->∀ b∈fp,∃ o,h.get? b=some o/\∀ v,o.data ≠ .cell v
 keep:∀ i h h',tn i h->(∀ b∈fp,∀ o,h.get? b=some o->h'.get? b=some o)->tn i h'
 item:∀ (X:Cx),X.prog=P->X.w=w->X.K=K->X.calm=true->∀ (i:Nat) (pins:List (Ye × Obj)) (s:Yd) (σ:St) (H:Hp) (E:X7->Yd->Prop),Inv X pins σ H s->(∀ b∈fp,cV X pins H b)->tn i s.heap->J.go i H ->
  Yr (model P w) X.A (aaE (.ref it)) (λr s1=>∃ u,r=some u /\
   Yr (model P w) X.A (abM tg (.ref it) u) (λ_ s2=>∃ x H',Inv X pins σ H' s2/\RelV x u/\J.yld i H x H'/\tn (i+1) s2.heap/\∀ b∈fp,H' b=none) E s1) E s
 done:∀ (X:Cx),X.prog=P->X.w=w->X.K=K->X.calm=true->∀ (i:Nat) (pins:List (Ye × Obj)) (s:Yd) (σ:St) (H:Hp) (E:X7->Yd->Prop),Inv X pins σ H s->(∀ b∈fp,cV X pins H b)->tn i s.heap->J.stop i H ->
  Yr (model P w) X.A (aaE (.ref it)) (λr s1=>r=none/\Inv X pins σ H s1) E s
 self:∀ (A:ZP) (i:Nat) (s:Yd) (Q:X7->Yd->Prop) (E:X7->Yd->Prop),tn i s.heap->Q (.ref it) s->Yr (model P w) A (afK (.ref it)) Q E s
abbrev TI:=St->Hp->(It->Hp->Prop)->Prop
def Ca(X:Cx)(pins:List (Ye × Obj))(σ:St)(tg:abD)(R:It->Hp->Prop)(pV:X7)(s2:Yd):Prop :=
 ∃ (it:Ye) (fp:List Ye) (tn:Nat->aax->Prop) (J:It) (H':Hp),pV = .ref it/\Inv X pins σ H' s2/\Turn X.prog X.w X.K tg J fp it tn/\tn 0 s2.heap/\(∀ b∈fp,cV X pins H' b)/\R J H'
def PI(X:Cx)(tg iter:abD)(wi:TI):Prop :=
 ∀ (pins:List (Ye × Obj)) (s:Yd) (σ:St) (H:Hp) (R:It->Hp->Prop),Inv X pins σ H s->wi σ H R ->
  Yr (model X.prog X.w) X.A (eval iter X.env) (λv s1=>Yr (model X.prog X.w) X.A (afK v) (Ca X pins σ tg R) X.xe s1) X.xe s
theorem nQ(ho:s.heap.get? it=some o)(hc:o.cls = .type n)(hd:o.data = .fields vs)(hn:["enumerate","zip","dict_itemiterator","dict_reverseitemiterator","odict_iterator","itertools.zip_longest","itertools.pairwise"].contains n=false)(hQ:Q () s):Yr M A (abM tg (.ref it) u) Q E s:=by
 unfold abM;cases tg<;>first
  | exact X3 hQ
  | (cases u<;>first
      | exact X3 hQ
      | (refine XX (wpAny_load ho ?_)
         rw[hc,hd];show Yr M A (if (["enumerate","zip","dict_itemiterator","dict_reverseitemiterator","odict_iterator","itertools.zip_longest","itertools.pairwise"].contains n && vs[0]? == some (abj _))=true then _ else _) Q E s;rw[if_neg (by intro h;rw[hn,abv] at h;cases h)];exact X3 hQ))
noncomputable def i0(K:XW)(a:Ye):It :=
 ⟨λi H=>∃ xs x,ai K H a xs/\xs[i]?=some x,λi H x H'=>H'=H/\∀ xs,ai K H a xs->xs[i]?=some x,λi H=>∃ xs,ai K H a xs/\xs.length<=i⟩
noncomputable def jQ(K:XW)(a:Ye):It :=
 ⟨λi H=>∃ xs x,ah K H a xs/\xs[i]?=some x,λi H x H'=>H'=H/\∀ xs,ah K H a xs->xs[i]?=some x,λi H=>∃ xs,ah K H a xs/\xs.length<=i⟩
noncomputable def gF(lo:Int)(n:Nat):It:=⟨λi _=>i<n,λi H x H'=>H'=H/\x = .int (lo+i),λi _=>n<=i⟩
theorem Kx{P:Y0}{w:Zw}{K:XW}{tg:abD}(a it:Ye):Turn P w K tg (i0 K a) [it] it (λi h=>h.IsListIter it a i) where
 mem:=by simp
 obj:=λi h st b hb=>by
  have e:b=it:=by simpa using hb
  subst e;obtain⟨o,e,c,d⟩:=st;exact⟨o,e,λv z=>by rw[d] at z;cases z⟩
 keep:=λi h h' st k=>st.at λo e=>k it (by simp) o e
 item:=by intro X hP hw hK hc i pins s σ H E I hf st hg;subst hP hw hK;obtain⟨xs,x,hq,hx⟩:=hg;obtain⟨aq,rv,p,hz⟩:=I.list hq;obtain⟨u,hu,ru⟩:=rv.get hx;obtain⟨f0,f1,f2,f3,f4,f5⟩:=hf it (by simp);refine wpAny_pyNext_list_item st p.isList (x:=u) (by simpa using hu) λh' cL sb=>?_;have I1:Inv X pins σ H { s with heap:=h' }:=I.turned (t':=s.toks) (λb o hb e=>(sb.2 b hb).trans e) f0 f1 f3 f4 f5;obtain⟨o,e,c,d⟩:=id cL;exact⟨u,rfl,nQ (s:={ s with heap:=h' }) e c d (by decide) ⟨x,H,I1,ru,⟨rfl,λys hy=>by rw[I.pS hy hq];exact hx⟩,cL,λb hb=>(hf b hb).1⟩⟩
 done:=by
  intro X hP hw hK hc i pins s σ H E I hf st hg;subst hP hw hK;obtain⟨xs,hq,hx⟩:=hg;obtain⟨aq,rv,p,hz⟩:=I.list hq;obtain⟨f0,f1,f2,f3,f4,f5⟩:=hf it (by simp);have hl:=rv.length;exact wpAny_pyNext_list_end (I.ok.hd hc) st p.isList (by simp;omega) λh' eb=>⟨rfl,I.turned (t':=s.toks) (λb o hb e=>eb b o hb e) f0 f1 f3 f4 f5⟩
 self:=λ_ _ _ _ _ st h=>wpAny_pyIter_listiter st h
theorem Ky{P:Y0}{w:Zw}{K:XW}{tg:abD}(a it:Ye):Turn P w K tg (jQ K a) [it] it (λi h=>h.IsTupleIter it a i) where
 mem:=by simp
 obj:=λi h st b hb=>by
  have e:b=it:=by simpa using hb
  subst e;obtain⟨o,e,c,d⟩:=st;exact⟨o,e,λv z=>by rw[d] at z;cases z⟩
 keep:=λi h h' st k=>st.at λo e=>k it (by simp) o e
 item:=by intro X hP hw hK hc i pins s σ H E I hf st hg;subst hP hw hK;obtain⟨xs,x,hq,hx⟩:=hg;obtain⟨aq,rv,p,hz⟩:=I.tuple hq;obtain⟨u,hu,ru⟩:=rv.get hx;obtain⟨f0,f1,f2,f3,f4,f5⟩:=hf it (by simp);refine wpAny_pyNext_tuple_item st (show s.heap.IsTuple a aq.toArray from p) (x:=u) (by simpa using hu) λh' cL sb=>?_;have I1:Inv X pins σ H { s with heap:=h' }:=I.turned (t':=s.toks) (λb o hb e=>(sb.2 b hb).trans e) f0 f1 f3 f4 f5;obtain⟨o,e,c,d⟩:=id cL;exact⟨u,rfl,nQ (s:={ s with heap:=h' }) e c d (by decide) ⟨x,H,I1,ru,⟨rfl,λys hy=>by rw[I.Kw hy hq];exact hx⟩,cL,λb hb=>(hf b hb).1⟩⟩
 done:=by
  intro X hP hw hK hc i pins s σ H E I hf st hg;subst hP hw hK;obtain⟨xs,hq,hx⟩:=hg;obtain⟨aq,rv,p,hz⟩:=I.tuple hq;obtain⟨f0,f1,f2,f3,f4,f5⟩:=hf it (by simp);have hl:=rv.length;exact wpAny_pyNext_tuple_end (I.ok.hd hc) st (show s.heap.IsTuple a aq.toArray from p) (by simp;omega) λh' eb=>⟨rfl,I.turned (t':=s.toks) (λb o hb e=>eb b o hb e) f0 f1 f3 f4 f5⟩
 self:=λ_ _ _ _ _ st h=>wpAny_pyIter_tupleiter st h
theorem Kz{P:Y0}{w:Zw}{K:XW}{tg:abD}(it:Ye)(lo:Int)(n:Nat):Turn P w K tg (gF lo n) [it] it (λi h=>adJ h it (lo+(i:Nat) * 1) ((n:Int)-(i:Nat)) 1) where
 mem:=by simp
 obj:=λi h st b hb=>by
  have e:b=it:=by simpa using hb
  subst e;exact⟨_,st,λv z=>by
   have z':Data.fields _=Data.cell v:=z;cases z'⟩
 keep:=λi h h' st k=>k it (by simp) _ st
 item:=by intro X hP hw hK hc i pins s σ H E I hf st hg;subst hP hw hK;obtain⟨f0,f1,f2,f3,f4,f5⟩:=hf it (by simp);have W:=Walks.range (prog:=X.prog) (w:=X.w) (I.ok.hd hc) it lo 1 n;refine W.item i s _ _ hg st λv h' tk hv cL kk=>?_;obtain⟨t,rfl⟩:=hv;have I1:Inv X pins σ H { s with heap:=h',toks:=tk }:=I.turned (λb o hb e=>kk b o (by simpa using hb) e) f0 f1 f3 f4 f5;refine⟨_,rfl,nQ (s:={ s with heap:=h',toks:=tk }) (n := "range_iterator") cL rfl rfl (by decide) ⟨.int (lo+i),H,I1,⟨t,?_⟩,⟨rfl,rfl⟩,cL,λb hb=>(hf b hb).1⟩⟩;rw[Int.mul_one]
 done:=by
  intro X hP hw hK hc i pins s σ H E I hf st hg;subst hP hw hK;obtain⟨f0,f1,f2,f3,f4,f5⟩:=hf it (by simp);exact acW (I.ok.hd hc) st (by have:n<=i:=hg;omega) λh' eb=>⟨rfl,I.turned (t':=s.toks) (λb o hb e=>eb b o hb e) f0 f1 f3 f4 f5⟩
 self:=λ_ _ _ _ _ st h=>acX st h
section
def t5(K:XW)(tl:TE):TI:=λσ H R=>tl σ H λx H1=>∃ a,x = .ref a/\(∃ xs,ai K H1 a xs)/\R (i0 K a) H1
def wG(K:XW)(tl:TE):TI:=λσ H R=>tl σ H λx H1=>∃ a,x = .ref a/\(∃ xs,ah K H1 a xs)/\R (jQ K a) H1
theorem cu(hl:PE X l tl):PI X tg l (t5 X.K tl):=by
 intro pins s σ H R I h;refine aB (hl pins s σ H _ I h) λv s1 zq=>?_;obtain⟨x,H1,I1,r1,q1⟩:=zq;obtain⟨a,e,⟨xs,hq⟩,q⟩:=q1;subst e;cases r1;obtain⟨aq,rv,p,hz⟩:=I1.list hq;refine abn p.isList ?_;refine⟨s1.heap.objs.size,[s1.heap.objs.size],_,_,H1,rfl,I1.kept (t':=s1.toks) λb o e=>X2 _ e,Kx a _,⟨_,Ya _ rfl,rfl,rfl⟩,λb hb=>?_,q⟩;have e:b=s1.heap.objs.size:=by simpa using hb
 subst e;exact I1.gE (X9 _) (I1.az.fresh (X9 _))
theorem t6(hl:PE X l tl):PI X tg l (wG X.K tl):=by
 intro pins s σ H R I h;refine aB (hl pins s σ H _ I h) λv s1 zq=>?_;obtain⟨x,H1,I1,r1,q1⟩:=zq;obtain⟨a,e,⟨xs,hq⟩,q⟩:=q1;subst e;cases r1;obtain⟨aq,rv,p,hz⟩:=I1.tuple hq;refine adW (show s1.heap.IsTuple a aq.toArray from p) ?_;refine⟨s1.heap.objs.size,[s1.heap.objs.size],_,_,H1,rfl,I1.kept (t':=s1.toks) λb o e=>X2 _ e,Ky a _,⟨_,Ya _ rfl,rfl,rfl⟩,λb hb=>?_,q⟩;have e:b=s1.heap.objs.size:=by simpa using hb
 subst e;exact I1.gE (X9 _) (I1.az.fresh (X9 _))
theorem Cb{pins:List (Ye × Obj)}{σ:St}{H:Hp}{s:Yd}{R:It->Hp->Prop}{E:X7->Yd->Prop}{lo hi:Int}{t u v:Tok}{tk:Nat}(I:Inv X pins σ H s)(h1 : -(2 ^ 62)<=lo)(h2:lo<2 ^ 62)(h3 : -(2 ^ 62)<=hi)(h4:hi<2 ^ 62)
 (q:R (gF lo (hi-lo).toNat) H):Yr (model X.prog X.w) X.A (afK (.ref s.heap.objs.size)) (Ca X pins σ tg R) E { s with heap:=s.heap.push { cls:=.type "range",data:=.fields #[.int lo t,.int hi u,.int 1 v] },toks:=tk }:=by
 refine adX (IsRange.new ..) (small_one h1 h2 h3 h4) ?_;have I1:Inv X pins σ H { s with heap:=s.heap.push { cls:=.type "range",data:=.fields #[.int lo t,.int hi u,.int 1 v] },toks:=tk }:=I.kept λb o e=>X2 _ e;refine⟨(s.heap.push { cls:=.type "range",data:=.fields #[.int lo t,.int hi u,.int 1 v] }).objs.size,[(s.heap.push { cls:=.type "range",data:=.fields #[.int lo t,.int hi u,.int 1 v] }).objs.size],_,_,H,rfl,
  I1.kept (t':=tk) λb o e=>X2 _ e,Kz _ lo (hi-lo).toNat,?_,λb hb=>?_,q⟩
 .have e1:lo+((0:Nat):Int) * 1=lo:=by simp
  have e2:(((hi-lo).toNat:Nat):Int)-((0:Nat):Int)=Y2 lo hi 1:=by rw[rangeSize_one];split<;>omega
  show adJ _ _ (lo+((0:Nat):Int) * 1) ((((hi-lo).toNat:Nat):Int)-((0:Nat):Int)) 1;rw[e1,e2];exact Ya _ rfl
 .have e:b=(s.heap.push { cls:=.type "range",data:=.fields #[.int lo t,.int hi u,.int 1 v] }).objs.size:=by simpa using hb
  subst e;exact I1.gE (X9 _) (I1.az.fresh (X9 _))
def wH(ta:TA):TI:=λσ H R=>ta σ H λvs H1=>∃ j:Int,vs=[.int j]/\-(2 ^ 62)<=j/\j<2 ^ 62/\R (gF 0 j.toNat) H1
def wI(ta:TA):TI:=λσ H R=>ta σ H λvs H1=>∃ i j:Int,vs=[.int i,.int j]/\(-(2 ^ 62)<=i/\i<2 ^ 62/\-(2 ^ 62)<=j/\j<2 ^ 62)/\R (gF i (j-i).toNat) H1
theorem fE(hg:Gl X "range")(hm:X.mg "range" = none)(ha:PA X [a] ta)(hs:Yv [a] X.env=[(false,eval a X.env)]:=by rfl):PI X tg (.Call (.Name "range" p) [a] [] pos) (wH ta):=by
 intro pins s σ H R I h;refine afY (ft I hg hm afp (YL (aB (ha pos pins s σ H _ I h) λus s1 zq=>?_) hs rfl));obtain⟨vs,H1,I1,r1,q1⟩:=zq;obtain⟨j,e,q1,q2,q⟩:=q1;subst e;cases r1 with
 | cons r rr =>
  cases rr;obtain⟨t,rfl⟩:=r;exact call_range_1 (Cb I1 (by omega) (by omega) q1 q2 (by simpa using q))
theorem mh(hg:Gl X "range")(hm:X.mg "range" = none)(ha:PA X [a,b] ta)(hs:Yv [a,b] X.env=[(false,eval a X.env),(false,eval b X.env)]:=by rfl)(cM:Yv [b] X.env=[(false,eval b X.env)]:=by rfl) :
 PI X tg (.Call (.Name "range" p) [a,b] [] pos) (wI ta):=by
 intro pins s σ H R I h;refine afY (ft I hg hm afp (YL (aB (ha pos pins s σ H _ I h) λus s1 ⟨vs,H1,I1,r1,q1⟩=>?_) (by rw[hs,cM]) (by rw[cM];rfl)));obtain⟨i,j,e,⟨q1,q2,q3,q4⟩,q⟩:=q1;subst e;cases r1 with
 | cons r rr =>
  cases rr with
  | cons r' rr =>
   cases rr;obtain⟨t,rfl⟩:=r;obtain⟨t',rfl⟩:=r';exact call_range_2 (Cb I1 q1 q2 q3 q4 q)
def i3(wi:TI)(g:TG)(tb:TS):TS:=λD σ H=>wi σ H λJ H1=>∃ W:Nat->Nat->St->Hp->Prop,(∃ m,W 0 m σ H1)/\∀ i m σ H,W i m σ H ->
 (J.stop i H/\D.nx σ H)∨(J.go i H/\∃ N:St->Hp->Prop,(∀ σ' H',N σ' H'->∃ m',m'<m/\W (i+1) m' σ' H')/\∀ x H',J.yld i H x H'->g x σ H' λσ2 H2=>tb { D with nx:=N,ct:=N,bk:=D.nx } σ2 H2)
noncomputable def pW(fp:List Ye)(h:aax):List (Ye × Obj):=fp.filterMap λb=>(h.get? b).map λo=>(b,o)
theorem t7(hb:b∈fp)(e:h.get? b=some o):(b,o)∈pW fp h:=ZQ.mpr ⟨b,hb,by rw[e];rfl⟩
theorem KA(hp:p∈pW fp h):p.1∈fp/\h.get? p.1=some p.2:=by
 obtain⟨b,hb,e⟩:=ZQ.mp hp;cases q:h.get? b with
 | none=>rw[q] at e;cases e
 | some o =>
  rw[q] at e;have e':(b,o)=p:=Option.some.inj e;subst e';exact⟨hb,q⟩
theorem Inv.pinned(I:Inv X pins σ H s)(hf:∀ b∈fp,cV X pins H b)(ho:∀ b∈fp,∃ o,s.heap.get? b=some o/\∀ v,o.data ≠ .cell v):Inv X (pins++pW fp s.heap) σ H s :=
 I.pO λp hp=>(Yz.mp hp).elim (λz=>I.pin p (Ym _ z)) λz=>by obtain⟨hb,e⟩:=KA z;obtain⟨f0,f1,f2,_⟩:=hf p.1 hb;obtain⟨o,e',d⟩:=ho p.1 hb;rw[e] at e';cases e';exact⟨e,f0,f1,f2,d⟩
theorem Inv.t8(I:Inv X (pins++pl) σ H s):Inv X pins σ H s:=I.pO λp hp=>I.pin p (Ym _ (Zc _ hp))
theorem cW(hp:PassesOwn (model X.prog X.w) X.A X.env X.xe)(hc:X.calm=true)(hi:PI X tg iter wi)(hg:PG X tg g)(hb:aP X body tb)(hs:∀ x,Z1 iter X.env x=pure x:=by intro _;rfl):PS X (.For tg iter body [] pos) (i3 wi g tb):=by
 intro pins s σ H D I h;refine wpAny_For (aB (hi pins s σ H _ I h) λv s1 h1=>aB h1 λpV s2 h2=>?_) hs;obtain⟨it,fp,tn,J,H2,e,I2,T,d9,f2,W,⟨m0,w0⟩,turn⟩:=h2;subst e;have wJ:∀ {H':Hp},(∀ b∈fp,H' b=none)->∀ b∈fp,cV X pins H' b:=λhn b hb=>⟨hn b hb,(f2 b hb).2⟩
 refine codeAny_forLoop_any (λn s'=>∃ i σ' H',Inv X pins σ' H' s'/\tn i s'.heap/\(∀ b∈fp,H' b=none)/\W i n σ' H') ?_ m0 ⟨0,σ,H2,I2,d9,λb hb=>(f2 b hb).1,w0⟩;rintro n s3 ⟨i,σ3,H3,I3,pX,pY,w3⟩;rcases turn i n σ3 H3 w3 with ⟨stop,qn⟩|⟨go,N,hN,step⟩
 .refine abd hp (aB (T.done X rfl rfl rfl hc i pins s3 σ3 H3 X.xe I3 (wJ pY) pX stop) λr s4 zq=>?_);obtain⟨hr,I4⟩:=zq;subst hr;exact adb ⟨σ3,H3,I4,qn⟩
 .refine abd hp (aB (T.item X rfl rfl rfl hc i pins s3 σ3 H3 X.xe I3 (wJ pY) pX go) λr s4 zq=>?_);obtain⟨u,hr,h4⟩:=zq;subst hr;refine abd hp (aB h4 λ_ s5 zq=>?_);obtain⟨x,H5,I5,r5,y5,mi,wK⟩:=zq;have wL:=I5.pinned (wJ wK) (T.obj _ _ mi);refine abd hp (aB (hg _ s5 σ3 H5 x u _ wL r5 (step x H5 y5)) λ_ s6 zq=>?_);obtain⟨σ6,H6,I6,q6⟩:=zq;refine abd hp (aB (hb _ s6 σ6 H6 _ I6 q6) λf s7 q7=>?_);have again:∀ {σ7:St} {H7:Hp},Inv X (pins++pW fp s5.heap) σ7 H7 s7->N σ7 H7->∃ m,m<n/\∃ i σ' H',Inv X pins σ' H' s7/\tn i s7.heap/\(∀ b∈fp,H' b=none)/\W i m σ' H':=λ{σ7 H7} I7 n7=>by obtain⟨m',hm,w7⟩:=hN σ7 H7 n7;refine⟨m',hm,i+1,σ7,H7,I7.t8,T.keep _ _ _ mi λb hb o e=>(I7.pin (b,o) (Ym _ (Ym _ (t7 hb e)))).1,λb hb=>?_,w7⟩;obtain⟨o,e,d⟩:=T.obj _ _ mi b hb;exact (I7.pin (b,o) (Ym _ (Ym _ (t7 hb e)))).2.1
  cases f with
  | next=>obtain⟨σ7,H7,I7,n7⟩:=q7;exact again I7 n7
  | cont=>obtain⟨σ7,H7,I7,n7⟩:=q7;exact again I7 n7
  | brk=>obtain⟨σ7,H7,I7,q7⟩:=q7;exact⟨σ7,H7,I7.t8,q7⟩
  | ret v=>obtain⟨x7,σ7,H7,I7,r7,q7⟩:=q7;exact⟨x7,σ7,H7,I7.t8,r7,q7⟩
end
theorem KC{K:XW}{a:Ye}{xs:List V}{g:TG}{tb:TS}{D:Ends}{σ:St}{H:Hp}(Pv:Nat->St->Hp->Prop)(h0:Pv 0 σ H)(hl:∀ i σ H,i<=xs.length->Pv i σ H->ai K H a xs)
 (hs:∀ i x σ H,xs[i]?=some x->Pv i σ H->g x σ H λσ2 H2=>tb { D with nx:=Pv (i+1),ct:=Pv (i+1),bk:=D.nx } σ2 H2) (hd:∀ σ H,Pv xs.length σ H->D.nx σ H) :
 ∃ W:Nat->Nat->St->Hp->Prop,(∃ m,W 0 m σ H)/\∀ i m σ H,W i m σ H ->
  ((i0 K a).stop i H/\D.nx σ H)∨((i0 K a).go i H/\∃ N:St->Hp->Prop,(∀ σ' H',N σ' H'->∃ m',m'<m/\W (i+1) m' σ' H')/\∀ x H',(i0 K a).yld i H x H'->g x σ H' λσ2 H2=>tb { D with nx:=N,ct:=N,bk:=D.nx } σ2 H2):=by
 refine⟨λi m σ H=>m=xs.length-i/\i<=xs.length/\Pv i σ H,⟨xs.length,by simp,YB _,h0⟩,?_⟩;rintro i m σ H ⟨rfl,hi,p⟩;have q:=hl i σ H hi p;by_cases aS:i<xs.length
 .refine .inr ⟨⟨xs,xs[i],q,by simp[aS]⟩,Pv (i+1),λσ' H' p'=>⟨xs.length-(i+1),by omega,rfl,aS,p'⟩,λx H' y=>?_⟩;obtain⟨e,y⟩:=y;subst e;exact hs i x σ _ (y xs q) p
 .have e:i=xs.length:=by omega
  subst e;exact .inl ⟨⟨xs,q,X9 _⟩,hd σ H p⟩
theorem KD{K:XW}{a:Ye}{xs:List V}{g:TG}{tb:TS}{D:Ends}{σ:St}{H:Hp}(Pv:Nat->St->Hp->Prop)(h0:Pv 0 σ H)(hl:∀ i σ H,i<=xs.length->Pv i σ H->ah K H a xs)
 (hs:∀ i x σ H,xs[i]?=some x->Pv i σ H->g x σ H λσ2 H2=>tb { D with nx:=Pv (i+1),ct:=Pv (i+1),bk:=D.nx } σ2 H2) (hd:∀ σ H,Pv xs.length σ H->D.nx σ H) :
 ∃ W:Nat->Nat->St->Hp->Prop,(∃ m,W 0 m σ H)/\∀ i m σ H,W i m σ H ->
  ((jQ K a).stop i H/\D.nx σ H)∨((jQ K a).go i H/\∃ N:St->Hp->Prop,(∀ σ' H',N σ' H'->∃ m',m'<m/\W (i+1) m' σ' H')/\∀ x H',(jQ K a).yld i H x H'->g x σ H' λσ2 H2=>tb { D with nx:=N,ct:=N,bk:=D.nx } σ2 H2):=by
 refine⟨λi m σ H=>m=xs.length-i/\i<=xs.length/\Pv i σ H,⟨xs.length,by simp,YB _,h0⟩,?_⟩;rintro i m σ H ⟨rfl,hi,p⟩;have q:=hl i σ H hi p;by_cases aS:i<xs.length
 .refine .inr ⟨⟨xs,xs[i],q,by simp[aS]⟩,Pv (i+1),λσ' H' p'=>⟨xs.length-(i+1),by omega,rfl,aS,p'⟩,λx H' y=>?_⟩;obtain⟨e,y⟩:=y;subst e;exact hs i x σ _ (y xs q) p
 .have e:i=xs.length:=by omega
  subst e;exact .inl ⟨⟨xs,q,X9 _⟩,hd σ H p⟩
theorem KG{lo:Int}{n:Nat}{g:TG}{tb:TS}{D:Ends}{σ:St}{H:Hp}(Pv:Nat->St->Hp->Prop)(h0:Pv 0 σ H)
 (hs:∀ i σ H,i<n->Pv i σ H->g (.int (lo+i)) σ H λσ2 H2=>tb { D with nx:=Pv (i+1),ct:=Pv (i+1),bk:=D.nx } σ2 H2) (hd:∀ σ H,Pv n σ H->D.nx σ H) :
 ∃ W:Nat->Nat->St->Hp->Prop,(∃ m,W 0 m σ H)/\∀ i m σ H,W i m σ H ->
  ((gF lo n).stop i H/\D.nx σ H)∨((gF lo n).go i H/\∃ N:St->Hp->Prop,(∀ σ' H',N σ' H'->∃ m',m'<m/\W (i+1) m' σ' H')/\∀ x H',(gF lo n).yld i H x H'->g x σ H' λσ2 H2=>tb { D with nx:=N,ct:=N,bk:=D.nx } σ2 H2):=by
 refine⟨λi m σ H=>m=n-i/\i<=n/\Pv i σ H,⟨n,by simp,YB _,h0⟩,?_⟩;rintro i m σ H ⟨rfl,hi,p⟩;by_cases aS:i<n
 .refine .inr ⟨aS,Pv (i+1),λσ' H' p'=>⟨n-(i+1),by omega,rfl,aS,p'⟩,λx H' y=>?_⟩;obtain⟨e,y⟩:=y;subst e y;exact hs i σ _ aS p
 .have e:i=n:=by omega
  subst e;exact .inl ⟨X9 _,hd σ H p⟩
abbrev R2:=V->V->Hp->VK->Prop
def a8(X:Cx)(f:X7->X7->Sem X7)(r:R2):Prop :=
 ∀ (pins:List (Ye × Obj)) (s:Yd) (σ:St) (H:Hp) (x y:V) (v u:X7) (Q:VK),Inv X pins σ H s->RelV x v->RelV y u->r x y H Q ->
  Yr (model X.prog X.w) X.A (f v u) (EP X pins σ Q) X.xe s
def nR(X:Cx)(f:X7->Sem X7)(r:V->Hp->VK->Prop):Prop :=
 ∀ (pins:List (Ye × Obj)) (s:Yd) (σ:St) (H:Hp) (x:V) (v:X7) (Q:VK),Inv X pins σ H s->RelV x v->r x H Q ->
  Yr (model X.prog X.w) X.A (f v) (EP X pins σ Q) X.xe s
def fu(X:Cx)(f:X7)(r:List V->Hp->VK->Prop):Prop :=
 ∀ (pins:List (Ye × Obj)) (s:Yd) (σ:St) (H:Hp) (xs:List V) (us:List X7) (Q:VK),Inv X pins σ H s->Vals xs us->r xs H Q ->
  Yr (model X.prog X.w) X.A (call f us) (EP X pins σ Q) X.xe s
def mj(r:R2)(ta tb:TE):TE:=λσ H Q=>ta σ H λx H1=>tb σ H1 λy H2=>r x y H2 Q
def Cc(r:V->Hp->VK->Prop)(ta:TE):TE:=λσ H Q=>ta σ H λx H1=>r x H1 Q
def rI(C:Int->Int->Prop)(g:Int->Int->V):R2:=λx y H Q=>∃ i j,x = .int i/\y = .int j/\C i j/\Q (g i j) H
def fF(g:Int->Int->V):R2:=λx y H Q=>∃ i j,x = .int i/\y = .int j/\Q (g i j) H
def rU(g:Int->V):V->Hp->VK->Prop:=λx H Q=>∃ i,x = .int i/\Q (g i) H
section
theorem wM(ha:PE X a ta)(hb:PE X b tb){pins:List (Ye × Obj)}{s:Yd}{σ:St}{H:Hp}{R:V->V->Hp->Prop}(I:Inv X pins σ H s)
 (h:ta σ H λx H1=>tb σ H1 λy H2=>R x y H2) {Q:X7->Yd->Prop} {f:X7->X7->Sem X7}
 (hf:∀ v u s2 x y H2,Inv X pins σ H2 s2->RelV x v->RelV y u->R x y H2->Yr (model X.prog X.w) X.A (f v u) Q X.xe s2) :
 Yr (model X.prog X.w) X.A (eval a X.env) (λv s₁=>Yr (model X.prog X.w) X.A (eval b X.env) (λu s₂=>Yr (model X.prog X.w) X.A (f v u) Q X.xe s₂) X.xe s₁) X.xe s:=by
 refine aB (ha pins s σ H _ I h) λv s1 zq=>?_;obtain⟨x,H1,I1,r1,q1⟩:=zq;refine aB (hb pins s1 σ H1 _ I1 q1) λu s2 zq=>?_;obtain⟨y,H2,I2,r2,q2⟩:=zq;exact hf v u s2 x y H2 I2 r1 r2 q2
theorem aH(ho:a8 X (aaY op) r)(ha:PE X a ta)(hb:PE X b tb):PE X (.BinOp a op b pos) (mj r ta tb):=by intro pins s σ H Q I h;exact wpAny_BinOp (wM ha hb I h λv u s2 x y H2 I2 rx ry q=>ho pins s2 σ H2 x y v u Q I2 rx ry q)
theorem gG(ho:nR X (unaryOp op) r)(ha:PE X a ta):PE X (.UnaryOp op a pos) (Cc r ta):=by intro pins s σ H Q I h;exact UnaryOp_ (aB (ha pins s σ H _ I h) λv s1 ⟨x,H1,I1,r1,q1⟩=>ho pins s1 σ H1 x v Q I1 r1 q1)
theorem t9{f:X7->X7->Sem X7}{C:Int->Int->Prop}{g:Int->Int->Int}
 (rule:∀ (i j:Int) (t u:Tok) (s:Yd) (Q:X7->Yd->Prop) (E:X7->Yd->Prop),C i j->Q (.int (g i j) s.toks) { s with toks:=s.toks+1 }->Yr (model X.prog X.w) X.A (f (.int i t) (.int j u)) Q E s) :
 a8 X f (rI C λi j=>.int (g i j)):=by
 intro pins s σ H x y v u Q I rx ry h;obtain⟨i,j,rfl,rfl,hc,q⟩:=h;obtain⟨t,rfl⟩:=rx;obtain⟨t',rfl⟩:=ry;exact rule i j t t' s _ _ hc ⟨.int (g i j),H,I.tok _,⟨_,rfl⟩,q⟩
theorem Cd{f:X7->X7->Sem X7}{g:Int->Int->Int}
 (rule:∀ (i j:Int) (t u:Tok) (s:Yd) (Q:X7->Yd->Prop) (E:X7->Yd->Prop),Q (.int (g i j) s.toks) { s with toks:=s.toks+1 }->Yr (model X.prog X.w) X.A (f (.int i t) (.int j u)) Q E s) :
 a8 X f (fF λi j=>.int (g i j)):=by
 intro pins s σ H x y v u Q I rx ry h;obtain⟨i,j,rfl,rfl,q⟩:=h;obtain⟨t,rfl⟩:=rx;obtain⟨t',rfl⟩:=ry;exact rule i j t t' s _ _ ⟨.int (g i j),H,I.tok _,⟨_,rfl⟩,q⟩
theorem ua{f:X7->X7->Sem X7}{g:Int->Int->Bool}
 (rule:∀ (i j:Int) (t u:Tok) (s:Yd) (Q:X7->Yd->Prop) (E:X7->Yd->Prop),Q (.bool (g i j)) s->Yr (model X.prog X.w) X.A (f (.int i t) (.int j u)) Q E s) :
 a8 X f (fF λi j=>.bl (g i j)):=by
 intro pins s σ H x y v u Q I rx ry h;obtain⟨i,j,rfl,rfl,q⟩:=h;obtain⟨t,rfl⟩:=rx;obtain⟨t',rfl⟩:=ry;exact rule i j t t' s _ _ ⟨.bl (g i j),H,I,rfl,q⟩
def KH(i j:Int):Prop:=0<=j/\j<=1000000/\i.natAbs<2 ^ 64
theorem KI:a8 X (aaY .Add) (fF λi j=>.int (i+j)):=Cd λ_ _ _ _ _ _ _ q=>add_int q
theorem KJ:a8 X (aaY .Sub) (fF λi j=>.int (i-j)):=Cd λ_ _ _ _ _ _ _ q=>sub_int q
theorem KL:a8 X (aaY .Mod) (rI (λ_ j=>0<j) λi j=>.int (i % j)):=t9 λi j _ _ _ _ _ hc q=>by have h1:(0:Int)<j:=hc;exact mod_int' (by omega) (by rw[Int.fmod_eq_emod_of_nonneg i (by omega)];exact q)
theorem wN:a8 X (aaY .Pow) (rI KH λi j=>.int (i ^ j.toNat)):=t9 λ_ _ _ _ _ _ _ hc q=>pow_int_small hc.1 hc.2.1 hc.2.2 q
theorem KN{f:X7->Sem X7}{g:Int->Int}
 (rule:∀ (i:Int) (t:Tok) (s:Yd) (Q:X7->Yd->Prop) (E:X7->Yd->Prop),Q (.int (g i) s.toks) { s with toks:=s.toks+1 }->Yr (model X.prog X.w) X.A (f (.int i t)) Q E s) :
 nR X f (rU λi=>.int (g i)):=by
 intro pins s σ H x v Q I rx h;obtain⟨i,rfl,q⟩:=h;obtain⟨t,rfl⟩:=rx;exact rule i t s _ _ ⟨.int (g i),H,I.tok _,⟨_,rfl⟩,q⟩
theorem KO:nR X (unaryOp .USub) (rU λi=>.int (-i)):=KN λ_ _ _ _ _ q=>neg_int q
end
noncomputable def jR:V->V->Bool
 | .non,.non=>true|.non,.int _=>true|.int _,.non=>true|.non,.bl _=>true|.bl _,.non=>true|.non,.str _=>true|.str _,.non=>true
 | .int _,.int _=>true|.bl _,.bl _=>true|.str _,.str _=>true|.byt _,.byt _=>true
 | .int _,.str _=>true|.str _,.int _=>true|.bl _,.str _=>true|.str _,.bl _=>true
 | _,_=>false
def Ce:R2:=λx y H Q=>jR x y=true/\Q (.bl (decide (x=y))) H
def Cf:R2:=λx y H Q=>jR x y=true/\Q (.bl (!decide (x=y))) H
theorem Cg:decide (V.int i=V.int j)=(i == j):=by rw[aaF];simp
theorem Ci:decide (V.bl i=V.bl j)=(i == j):=by rw[aaF];simp
theorem Cj:decide (V.str i=V.str j)=(i == j):=by rw[aaF];simp
theorem Ck:decide (V.byt i=V.byt j)=(i.toList == j.toList):=by rw[aaF];cases i;cases j;simp
section
theorem bW(I:Inv X pins σ H s)(q:Q (.bl k) H)(e:k=k'):EP X pins σ Q (.bool k') s:=by subst e;exact⟨.bl k,H,I,rfl,q⟩
theorem nT:a8 X (Zd .Eq) Ce:=by
 intro pins s σ H x y v u Q I rx ry h;obtain⟨hs,q⟩:=h;cases x with
 | non =>
  cases rx;cases y with
  | non=>cases ry;exact PySem.EqNone.eq_none_none (bW I q (by simp))
  | bl j=>cases ry;exact PySem.EqNone.eq_none_bool (bW I q (by simp))
  | int j=>obtain⟨t',rfl⟩:=ry;exact PySem.EqNone.eq_none_int (bW I q (by simp))
  | str j=>obtain⟨t',rfl⟩:=ry;exact PySem.EqNone.eq_none_str (bW I q (by simp))
  | _=>exact absurd (show false=true from hs) Yq
 | bl i =>
  cases rx;cases y with
  | non=>cases ry;exact PySem.EqNone.eq_bool_none (bW I q (by simp))
  | bl j=>cases ry;exact eq_bool (bW I q Ci)
  | str j=>obtain⟨t',rfl⟩:=ry;exact PySem.EqMixed.eq_bool_str (bW I q (by simp))
  | _=>exact absurd (show false=true from hs) Yq
 | int i =>
  obtain⟨t,rfl⟩:=rx;cases y with
  | non=>cases ry;exact PySem.EqNone.eq_int_none (bW I q (by simp))
  | int j=>obtain⟨t',rfl⟩:=ry;exact eq_int (bW I q Cg)
  | str j=>obtain⟨t',rfl⟩:=ry;exact PySem.EqMixed.eq_int_str (bW I q (by simp))
  | _=>exact absurd (show false=true from hs) Yq
 | str i =>
  obtain⟨t,rfl⟩:=rx;cases y with
  | non=>cases ry;exact PySem.EqNone.eq_str_none (bW I q (by simp))
  | bl j=>cases ry;exact PySem.EqMixed.eq_str_bool (bW I q (by simp))
  | int j=>obtain⟨t',rfl⟩:=ry;exact PySem.EqMixed.eq_str_int (bW I q (by simp))
  | str j=>obtain⟨t',rfl⟩:=ry;exact eq_str (bW I q Cj)
  | _=>exact absurd (show false=true from hs) Yq
 | byt i =>
  obtain⟨t,rfl⟩:=rx;cases y with
  | byt j=>obtain⟨t',rfl⟩:=ry;exact PySem.W.eq_bytes (bW I q Ck)
  | _=>exact absurd (show false=true from hs) Yq
 | _=>cases y<;>exact absurd (show false=true from hs) Yq
theorem KP:a8 X (Zd .NotEq) Cf:=by
 intro pins s σ H x y v u Q I rx ry h;obtain⟨hs,q⟩:=h;cases x with
 | non =>
  cases rx;cases y with
  | non=>cases ry;exact PySem.EqNone.ne_none_none (bW I q (by simp))
  | bl j=>cases ry;exact PySem.EqNone.ne_none_bool (bW I q (by simp))
  | int j=>obtain⟨t',rfl⟩:=ry;exact PySem.EqNone.ne_none_int (bW I q (by simp))
  | str j=>obtain⟨t',rfl⟩:=ry;exact PySem.EqNone.ne_none_str (bW I q (by simp))
  | _=>exact absurd (show false=true from hs) Yq
 | bl i =>
  cases rx;cases y with
  | non=>cases ry;exact PySem.EqNone.ne_bool_none (bW I q (by simp))
  | bl j=>cases ry;exact ne_bool (bW I q (congrArg not Ci))
  | str j=>obtain⟨t',rfl⟩:=ry;exact PySem.EqMixed.ne_bool_str (bW I q (by simp))
  | _=>exact absurd (show false=true from hs) Yq
 | int i =>
  obtain⟨t,rfl⟩:=rx;cases y with
  | non=>cases ry;exact PySem.EqNone.ne_int_none (bW I q (by simp))
  | int j=>obtain⟨t',rfl⟩:=ry;exact ne_int (bW I q (congrArg not Cg))
  | str j=>obtain⟨t',rfl⟩:=ry;exact PySem.EqMixed.ne_int_str (bW I q (by simp))
  | _=>exact absurd (show false=true from hs) Yq
 | str i =>
  obtain⟨t,rfl⟩:=rx;cases y with
  | non=>cases ry;exact PySem.EqNone.ne_str_none (bW I q (by simp))
  | bl j=>cases ry;exact PySem.EqMixed.ne_str_bool (bW I q (by simp))
  | int j=>obtain⟨t',rfl⟩:=ry;exact PySem.EqMixed.ne_str_int (bW I q (by simp))
  | str j=>obtain⟨t',rfl⟩:=ry;exact ne_str (bW I q (congrArg not Cj))
  | _=>exact absurd (show false=true from hs) Yq
 | byt i =>
  obtain⟨t,rfl⟩:=rx;cases y with
  | byt j=>obtain⟨t',rfl⟩:=ry;exact PySem.W.ne_bytes (bW I q (congrArg not Ck))
  | _=>exact absurd (show false=true from hs) Yq
 | _=>cases y<;>exact absurd (show false=true from hs) Yq
theorem wO:a8 X (Zd .Lt) (fF λi j=>.bl (decide (i<j))):=ua λ_ _ _ _ _ _ _ q=>lt_int q
theorem ed:a8 X (Zd .LtE) (fF λi j=>.bl (decide (i<=j))):=ua λ_ _ _ _ _ _ _ q=>le_int q
theorem pZ:a8 X (Zd .Gt) (fF λi j=>.bl (decide (j<i))):=ua λ_ _ _ _ _ _ _ q=>gt_int q
theorem KQ:a8 X (Zd .GtE) (fF λi j=>.bl (decide (j<=i))):=ua λ_ _ _ _ _ _ _ q=>ge_int q
theorem c8(b:abD)(h:op ≠ .In:=by decide)(h2:op ≠ .NotIn:=by decide):aad op b=false:=by
 have e1:(op == CmpOp.In)=false:=by cases op<;>first|rfl|exact absurd rfl h
 have e2:(op == CmpOp.NotIn)=false:=by cases op<;>first|rfl|exact absurd rfl h2
 cases b<;>simp[aad,e1,e2]
theorem eZ(ho:a8 X (Zd op) r)(ha:PE X a ta)(hb:PE X b tb)(hm:aad op b=false):PE X (.Compare a [op] [b] pos) (mj r ta tb):=by intro pins s σ H Q I h;exact wpAny_Compare1 (wM ha hb I h λv u s2 x y H2 I2 rx ry q=>ho pins s2 σ H2 x y v u Q I2 rx ry q) hm
def ue(t:TE):TT:=λσ H Q=>t σ H λx H'=>∃ k,x = .bl k/\Q k H'
theorem jS(ho:a8 X (Zd op) r)(ha:PE X a ta)(hb:PE X b tb)(hm:aad op b=false):PT X (.Compare a [op] [b] pos) (ue (mj r ta tb)):=by
 intro pins s σ H Q I h;refine ada (aB (ha pins s σ H _ I h) λv s1 ⟨x,H1,I1,r1,q1⟩=>aB (hb pins s1 σ H1 _ I1 q1) λu s2 ⟨y,H2,I2,r2,q2⟩ =>
  aB (ho pins s2 σ H2 x y v u _ I2 r1 r2 q2) λc s3 ⟨z,H3,I3,r3,k,e,q3⟩=>?_) hm
 subst e;cases r3;exact YR ⟨H3,I3,q3⟩
def wQ(r r':R2)(ta tb tc:TE):TE:=λσ H Q=>ta σ H λx H1=>tb σ H1 λy H2=>r x y H2 λz H3=>∃ k,z = .bl k /\
 (if k=true then tc σ H3 λw' H4=>r' y w' H4 Q else Q (.bl false) H3)
theorem Cm(ho:a8 X (Zd op) r)(cA:a8 X (Zd gH) r')(ha:PE X a ta)(hb:PE X b tb)(hc:PE X c tc)(hm:aeR [op,gH] [b,c]=false:=by with_unfolding_all rfl):PE X (.Compare a [op,gH] [b,c] pos) (wQ r r' ta tb tc):=by
 intro pins s σ H Q I h;refine Compare_chain (aB (ha pins s σ H _ I h) λv s1 ⟨x,H1,I1,r1,q1⟩=>chain_link (aB (hb pins s1 σ H1 _ I1 q1) λu s2 ⟨y,H2,I2,r2,q2⟩ =>
  aB (ho pins s2 σ H2 x y v u _ I2 r1 r2 q2) λd s3 ⟨z,H3,I3,r3,k,e,q3⟩=>?_)) hm
 subst e;cases r3;refine YR ?_;cases k with
 | false=>exact ite_ff ⟨.bl false,H3,I3,rfl,q3⟩
 | true=>exact ite_tt (chain_last (aB (hc pins s3 σ H3 _ I3 q3) λw' s4 ⟨z',H4,I4,r4,q4⟩=>cA pins s4 σ H4 y z' u w' Q I4 r2 r4 q4))
theorem KR(ho:a8 X (Zd op) r)(cA:a8 X (Zd gH) r')(ha:PE X a ta)(hb:PE X b tb)(hc:PE X c tc)(hm:aeR [op,gH] [b,c]=false:=by with_unfolding_all rfl):PT X (.Compare a [op,gH] [b,c] pos) (ue (wQ r r' ta tb tc)):=by
 intro pins s σ H Q I h;refine isTrue_chain (aB (ha pins s σ H _ I h) λv s1 ⟨x,H1,I1,r1,q1⟩=>afL (aB (hb pins s1 σ H1 _ I1 q1) λu s2 ⟨y,H2,I2,r2,q2⟩ =>
  aB (ho pins s2 σ H2 x y v u _ I2 r1 r2 q2) λd s3 ⟨z,H3,I3,r3,k,e,q3⟩=>?_)) hm
 subst e;cases r3;refine YR ?_;cases k with
 | false =>
  obtain⟨k',e',q'⟩:=q3;cases e';exact ite_ff ⟨H3,I3,q'⟩
 | true =>
  refine ite_tt (test_last (aB (hc pins s3 σ H3 _ I3 q3) λw' s4 ⟨z',H4,I4,r4,q4⟩=>aB (cA pins s4 σ H4 y z' u w' _ I4 r2 r4 q4) λd' s5 zq=>?_));obtain⟨z2,H5,I5,r5,k2,e2,q5⟩:=zq;subst e2;cases r5;exact YR ⟨H5,I5,q5⟩
theorem p8:(Yt:Nat)<2 ^ 63:=by rw[abo];decide
theorem vals1(r:Vals [x] us):∃ u,us=[u]/\RelV x u:=by
 cases r with
 | cons r1 r2=>cases r2;exact⟨_,rfl,r1⟩
theorem vals2(r:Vals [x,y] us):∃ u w',us=[u,w']/\RelV x u/\RelV y w':=by
 cases r with
 | cons r1 r2 =>
  cases r2 with
  | cons r3 r4=>cases r4;exact⟨_,_,rfl,r1,r3⟩
theorem Cn(hc:X.calm=true):fu X (.builtin "max") (λxs H Q=>∃ i j,xs=[.int i,.int j]/\Q (.int (if j > i then j else i)) H):=by
 intro pins s σ H xs us Q I r h;obtain⟨i,j,rfl,q⟩:=h;obtain⟨u,w',rfl,⟨t,rfl⟩,⟨t',rfl⟩⟩:=vals2 r;refine max_two_ints (I.ok.hd hc) λh' tk k=>⟨_,H,I.kept k,?_,q⟩
 by_cases hj:j > i
 .rw[if_pos hj,if_pos hj];exact⟨_,rfl⟩
 .rw[if_neg hj,if_neg hj];exact⟨_,rfl⟩
theorem nU(hc:X.calm=true):fu X (.builtin "min") (λxs H Q=>∃ i j,xs=[.int i,.int j]/\Q (.int (if j<i then j else i)) H):=by
 intro pins s σ H xs us Q I r h;obtain⟨i,j,rfl,q⟩:=h;obtain⟨u,w',rfl,⟨t,rfl⟩,⟨t',rfl⟩⟩:=vals2 r;refine min_two_ints (I.ok.hd hc) λh' tk k=>⟨_,H,I.kept k,?_,q⟩
 by_cases hj:j<i
 .rw[if_pos hj,if_pos hj];exact⟨_,rfl⟩
 .rw[if_neg hj,if_neg hj];exact⟨_,rfl⟩
def uf(K:XW)(x:V)(H:Hp)(n:Nat):Prop :=
 match x with
 | .str y=>y.length<=Yt/\n=y.length
 | .byt y=>y.size<=Yt/\n=y.size
 | .ref p=>(∃ xs,ai K H p xs/\n=xs.length) ∨ ∃ xs,ah K H p xs/\n=xs.length
 | _=>False
theorem cX:fu X (.builtin "len") (λxs H Q=>∃ x n,xs=[x]/\uf X.K x H n/\Q (.int n) H):=by
 intro pins s σ H xs us Q I r h;obtain⟨x,n,rfl,e,q⟩:=h;obtain⟨u,rfl,rx⟩:=vals1 r;have hl:=p8;have hs:Yt=16777216:=abo;cases x with
 | str y =>
  obtain⟨t,rfl⟩:=rx;obtain⟨hy,e'⟩:y.length<=Yt/\n=y.length:=e;subst e';exact len_str (by omega) ⟨.int _,H,I.tok _,⟨_,rfl⟩,q⟩
 | byt y =>
  obtain⟨t,rfl⟩:=rx;obtain⟨hy,e'⟩:y.size<=Yt/\n=y.size:=e;subst e';exact PySem.W.len_bytes (by omega) ⟨.int _,H,I.tok _,⟨_,rfl⟩,q⟩
 | ref p =>
  cases rx;have e':(∃ xs,ai X.K H p xs/\n=xs.length) ∨ ∃ xs,ah X.K H p xs/\n=xs.length:=e;rcases e' with ⟨xs,hx,e'⟩|⟨xs,hx,e'⟩
  .subst e';obtain⟨aq,r',pl,hz⟩:=I.list hx;have hlen:=r'.length;exact Calls.call_len_list pl.isList (by simp only[Yg];omega) ⟨.int xs.length,H,I.tok _,⟨_,by simp only[Yg];rw[hlen]⟩,q⟩
  .subst e';obtain⟨aq,r',pl,hz⟩:=I.tuple hx;have hlen:=r'.length;exact len_tuple pl (by simp only[Yg];omega) ⟨.int xs.length,H,I.tok _,⟨_,by simp only[Yg];rw[hlen]⟩,q⟩
 | _=>exact (show False from e).elim
end
structure mq(h:aax)(x dx C:Ye)(mA:Str->Option X7):Prop where
 obj:h.get? x=some (Z2 C dx)
 ns:h.Ns1 dx mA
 ne:dx≠x
theorem KS{h:aax}{dx:Ye}{mA:Str->Option X7}(n:h.Ns1 dx mA):∃ od,h.get? dx=some od/\∀ name,acb name od=some (mA name):=by
 obtain⟨o,es,ep,ho,hd,hk,_,hm⟩:=n;refine⟨o,ho,λname=>?_⟩;have e:=hm name;unfold nsFind findBy at e;rw[<- Array.find?_toList] at e;unfold acb;rw[hd];dsimp only;split
 .rename_i y q;rw[q] at e;exact congrArg some e
 .rename_i q;rw[q] at e;have a:es.toList.any (·.refKey)=false:=by rw[aeh];intro y hy;obtain⟨z,t,hkey⟩:=hk y (Array.mem_toList_iff.mp hy);simp[DictEntry.refKey,hkey]
  have a':¬ es.toList.any (·.refKey)=true:=by rw[a];exact Yq
  rw[if_neg a'];exact congrArg some e
theorem mq.look(I:mq h x dx C mA):∃ od,PySem.W.InstAt h x (Z2 C dx) C (some od)/\∀ name,acb name od=some (mA name) :=
 let ⟨od,ho,hl⟩:=KS I.ns
 ⟨od,⟨I.obj,rfl,rfl,ho⟩,hl⟩
section
variable{prog:Y0}{w:Zw}{A:ZP}{E:X7->Yd->Prop}{s:Yd}{K:XW}{x dx C f:Ye}{mA:Str->Option X7}{name:Str}{v:X7}
theorem get_map{expr:Bool}{Q:X7->Yd->Prop}(X:K.In s.heap)(I:mq s.heap x dx C mA)(hg:abF K C name=true)(hh:acp K C=true)
 (ha:YD K (.ref C) name=some none) (hv:mA name=some v) (KU:aeH v=true) (h:Q v { s with toks:=s.toks+1 }) :
 Yr (model prog w) A (getAttr (.ref x) name expr) Q E s:=by
 obtain⟨od,J,hl⟩:=I.look;exact PySem.W.get_value X J (abN hg).1 (PySem.W.findObj_own hh ha rfl (by rw[hl,hv])) KU h
theorem KW{pl:Sem Bool}{Q:X7 × List X7->Yd->Prop}(X:K.In s.heap)(I:mq s.heap x dx C mA)(hg:abF K C name=true)
 (hf:YD K (.ref C) name=some (some (.ref f))) (ht:ade K (.ref f)=true) (hv:mA name=none) (h:Q (.ref f,[.ref x]) s) :
 Yr (model prog w) A (adf (.ref x) name pl) Q E s:=by
 obtain⟨od,J,hl⟩:=I.look;exact PySem.W.method_fn X J (abN hg).1 (abN hg).2 hf (beq_iff_eq.mp ht) (by show (acb name od).map (·.isSome)=some false;rw[hl,hv];rfl) h
theorem KY{ns:List Str}{Q:Unit->Yd->Prop}(X:K.In s.heap)(I:mq s.heap x dx C mA)
 (hs:YD K (.ref C) "__setattr__" = some (some (.builtin "object.__setattr__"))) (hp:aei K C=true) (ht:adg K C name=some none) (hh:acp K C=true)
 (hw:aeA mA ns) (hsz:ns.length<=Yt)
 (h:∀ h',mq h' x dx C (λy=>if y=name then some v else mA y)->Heap.SameBut dx s.heap h'->Q () { s with heap:=h',toks:=s.toks+2 }) :
 Yr (model prog w) A (setAttr (.ref x) name v) Q E s:=by
 obtain⟨od,J,hl⟩:=I.look;refine PySem.W.set_plain X J hs (PySem.W.osa_open (s:={ s with toks:=s.toks+1 }) (r:=none) X J hp ht λb=>?_);obtain⟨cd,hc,ig⟩:=PySem.W.any_some hh;have hx:s.heap.get? x=some ⟨.ref C,some dx,.plain,#[]⟩:=I.obj;refine XX (X3 (XX (XX (wpAny_loadPart hx (XX (PySem.W.Looks.here (s:={ s with toks:=s.toks+1 }) (PySem.W.looks_clsIn X hc) ?_))))));rw[ig];refine X3 (a:=some dx) (XX (X3 (XX ?_)));refine wpAny_nsSet1 (s:={ s with toks:=s.toks+1 }) I.ns λh' uh cM=>?_;obtain⟨oD,Xl,Xm,KZ,K0,K1⟩:=uh.count (PySem.Within.cons name v hw);refine XX (wpAny_lookBehind KZ (by rw[K0];exact pastItsLine_dict (X5 K1 (by rw[YY];omega))) ?_);exact X3 (h _ ⟨(cM.2 _ (Y1 I.ne)).trans I.obj,uh,I.ne⟩ cM)
theorem K2{R:adY->Yd->Prop}{vs:List X7}{kw:List (Str × X7)}(X:K.In s.heap)(hm:aaG K C=true)
 (hi:YD K (.ref C) "__init__" = some (some (.ref f))) (hf:PySem.W.typeIn K (.ref f)=some (.type "function"))
 (h:aaS (model prog w) (A.under (.builtin "type.__call__" ⟨.ref C::vs,kw⟩)) (.call (.ref f) ⟨.ref (s.heap.objs.size+1)::vs,kw⟩) (PySem.W.InitBack (s.heap.objs.size+1) R)
   { s with heap:=(s.heap.push Zt).push (Z2 C s.heap.objs.size) }) :
 aaS (model prog w) A (.call (.ref C) ⟨vs,kw⟩) R s:=by
 obtain⟨hh,g,d,t,os⟩:=s;exact PySem.W.make_core (PySem.W.makes_of X hm) (PySem.W.looks_findIn X hi) (λself=>PySem.W.bind_fn X self hf) (.inl rfl) h
end
noncomputable def eM(f:Str)(v:V):List (Str × V)->List (Str × V)
 | []=>[(f,v)]
 | (g,x)::r=>if g=f then (g,v)::r else (g,x)::eM f v r
theorem Co(f g:Str)(v:V):∀ fs:List (Str × V),(eM f v fs).lookup g=if g=f then some v else fs.lookup g
 | []=>by
  show Z3 g [(f,v)]=_;by_cases h:g=f
  .have hb:(g == f)=true:=beq_iff_eq.mpr h;simp only[Z3,hb,if_pos h]
  .have hb:(g == f)=false:=beq_eq_false_iff_ne.mpr h;simp only[Z3,hb,if_neg h]
 | (k,x)::r=>by
  have ih:=Co f g v r;rw[show eM f v ((k,x)::r)=(if k=f then (k,v)::r else (k,x)::eM f v r) from rfl];by_cases hk:k=f
  .rw[if_pos hk];by_cases h:g=k
   .have hb:(g == k)=true:=beq_iff_eq.mpr h;simp only[Z3,hb,if_pos (h.trans hk)]
   .have hb:(g == k)=false:=beq_eq_false_iff_ne.mpr h;simp only[Z3,hb,if_neg (λe:g=f=>h (e.trans hk.symm))]
  .rw[if_neg hk];by_cases h:g=k
   .have hb:(g == k)=true:=beq_iff_eq.mpr h;simp only[Z3,hb,if_neg (λe:g=f=>hk (h.symm.trans e))]
   .have hb:(g == k)=false:=beq_eq_false_iff_ne.mpr h;simp only[Z3,hb];exact ih
theorem wR(f:Str)(v:V):∀ fs:List (Str × V),f∈(eM f v fs).map (·.1)/\∀ g,g∈fs.map (·.1)->g∈(eM f v fs).map (·.1)
 | []=>⟨by simp[eM],λg h=>by simp at h⟩
 | (k,x)::r=>by
  obtain⟨i1,i2⟩:=wR f v r;rw[show eM f v ((k,x)::r)=(if k=f then (k,v)::r else (k,x)::eM f v r) from rfl];by_cases hk:k=f
  .rw[if_pos hk];subst hk;exact⟨by simp,λg h=>by simpa using h⟩
  .rw[if_neg hk];refine⟨?_,λg h=>?_⟩
   .rw[Ys];exact YU _ i1
   .rw[Ys] at h ⊢;rcases Yi.mp h with e|e
    .exact Yi.mpr (.inl e)
    .exact YU _ (i2 g e)
theorem Cp(f:Str)(v:V):∀ fs:List (Str × V),(eM f v fs).length<=fs.length+1
 | []=>by simp[eM]
 | (k,x)::r=>by
  have ih:=Cp f v r;rw[show eM f v ((k,x)::r)=(if k=f then (k,v)::r else (k,x)::eM f v r) from rfl];by_cases hk:k=f
  .rw[if_pos hk,YY,YY];omega
  .rw[if_neg hk,YY,YY];omega
theorem eX.some_of(r:eX (some v) o):∃ u,o=some u/\RelV v u:=by
 cases o with
 | none=>exact (show False from r).elim
 | some u=>exact⟨u,rfl,r⟩
theorem eX.none_of(r:eX none o):o=none:=by
 cases o with
 | none=>rfl
 | some u=>exact (show False from r).elim
theorem K3(r:RelV v u):aeH u=true:=by
 cases v with
 | non=>cases (show u=Value.none from r);rfl
 | bl b=>cases (show u=ZE b from r);rfl
 | int i=>obtain⟨t,e⟩:=(show ∃ t,u=aak i t from r);cases e;rfl
 | str x=>obtain⟨t,e⟩:=(show ∃ t,u=adR x t from r);cases e;rfl
 | byt b=>obtain⟨t,e⟩:=(show ∃ t,u=afX b t from r);cases e;rfl
 | flt b=>obtain⟨t,e⟩:=(show ∃ t,u=aeQ b t from r);cases e;rfl
 | ref a=>cases (show u=YC a from r);rfl
 | ty n=>cases (show u=acm n from r);rfl
section
theorem ui(az:bU P w H h)(e:H a=some (.ins C dx fs)):∃ mA,mq h a dx C mA/\(∀ f,eX (fs.lookup f) (mA f))/\aeA mA (fs.map (·.1))/\fs.length<=1000/\H dx=some (.own a):=by
 obtain⟨d,z,ne,ob,mA,n,r,q⟩:=(show bK P w H h a (.ins C dx fs) from az a _ e)
 exact⟨mA,⟨ob,n,ne⟩,r,q,z,d⟩
end
structure b7(K:XW)(C:Ye):Prop where
 pg:abF K C Str.empty=true
 hd:acp K C=true
 po:aei K C=true
 sa:YD K (.ref C) "__setattr__" = some (some (.builtin "object.__setattr__"))
theorem b7.get{K:XW}{C:Ye}(c:b7 K C)(f:Str):abF K C f=true:=c.pg
def cj(K:XW)(C:Ye)(f:Str):Prop:=YD K (.ref C) f=some none
theorem cj.K4{K:XW}{C:Ye}{f:Str}(n:cj K C f):adg K C f=some none:=by unfold adg;rw[show YD K (.ref C) f=some none from n];rfl
structure Meth(K:XW)(C:Ye)(m:Str)(f:Ye):Prop where
 at_:YD K (.ref C) m=some (some (.ref f))
 fn:ade K (.ref f)=true
 kp:Zx K (.ref f)=true
section
theorem K5(I:Inv X pins σ H s)(e:H a=some (.ins C dx fs))(c:b7 X.K C)(n:cj X.K C f)(l:fs.lookup f=some v)(h:∀ u s',Inv X pins σ H s'->RelV v u->Q u s'):Yr (model X.prog X.w) A (getAttr (.ref a) f b) Q E s:=by obtain⟨mA,O,r,_,_,_⟩:=ui I.az e;obtain⟨u,hu,ru⟩:=eX.some_of (v:=v) (o:=mA f) (by rw[<- l];exact r f);exact get_map I.b6 O (c.get f) c.hd n hu (K3 ru) (h u _ (I.tok _) ru)
theorem wU(I:Inv X pins σ H s)(e:H a=some (.ins C dx fs))(c:b7 X.K C)(k:Meth X.K C m g)(l:fs.lookup m=none)(h:Q (.ref g,[.ref a]) s):Yr (model X.prog X.w) A (adf (.ref a) m pl) Q E s:=by obtain⟨mA,O,r,_,_,_⟩:=ui I.az e;have hn:mA m=none:=eX.none_of (by rw[<- l];exact r m);exact KW I.b6 O (c.get m) k.at_ k.fn hn h
theorem K6(I:Inv X pins σ H s)(e:H a=some (.ins C dx fs))(c:b7 X.K C)(n:cj X.K C f)(hl:fs.length<1000)(ry:RelV y u)(h:∀ s',Inv X pins σ (upd H a (.ins C dx (eM f y fs))) s'->Q () s'):Yr (model X.prog X.w) A (setAttr (.ref a) f u) Q E s:=by
 obtain⟨mA,O,r,wi,_,ho⟩:=ui I.az e;have hz:(fs.map (·.1)).length<=Yt:=by rw[XY,abo];omega
 refine KY I.b6 O c.sa c.po n.K4 c.hd wi hz λh' O' sb=>h _ ?_;have hd:∃ o,h'.get? dx=some o:=let ⟨o,_,_,e',_⟩:=O'.ns;⟨o,e'⟩;refine I.write (x:=a) (e:=dx) (by rw[e];exact aay) (.inr ho) (λb q hb z=>(sb.2 b hb).trans z) hd ?_;refine⟨by rw[aG O.ne];exact ho,?_,O.ne,O'.obj,_,O'.ns,λg=>?_,λg hg=>?_⟩
 .have:=Cp f y fs;omega
 .show eX ((eM f y fs).lookup g) (if g=f then some u else mA g);rw[Co];by_cases q:g=f
  .rw[if_pos q,if_pos q];exact ry
  .rw[if_neg q,if_neg q];exact r g
 .by_cases q:g=f
  .rw[q];exact (wR f y fs).1
  .refine (wR f y fs).2 g (wi g λz=>hg ?_);show (if g=f then some u else mA g)=none;rw[if_neg q];exact z
theorem Inv.made(I:Inv X pins σ H s):Inv X pins σ (upd (upd H s.heap.objs.size (.own (s.heap.objs.size+1))) (s.heap.objs.size+1) (.ins C s.heap.objs.size []))
 { s with heap:=(s.heap.push Zt).push (Z2 C s.heap.objs.size) }:=by
 have e1:(s.heap.push Zt).get? s.heap.objs.size=some Zt:=Ya s.heap rfl;have e2:((s.heap.push Zt).push (Z2 C s.heap.objs.size)).get? (s.heap.objs.size+1)=some (Z2 C s.heap.objs.size):=by
  have:=Ya (s.heap.push Zt) (o:=Z2 C s.heap.objs.size) rfl
  rwa [ZM] at this
 have e3:(s.heap.push Zt).Ns s.heap.objs.size (λ_=>none):=⟨Zt,#[],_,e1,rfl,(λe he=>absurd he (by simp)),λ_=>rfl⟩
 have I1:=I.laid (a:=s.heap.objs.size) (o:=.own (s.heap.objs.size+1)) (h':=s.heap.push Zt) (t':=s.toks) (λb u q=>X2 _ q) (X9 _) ⟨_,e1⟩;refine I1.laid (a:=s.heap.objs.size+1) (o:=.ins C s.heap.objs.size []) (t':=s.toks) (λb u q=>X2 _ q) (afM (ZM _ _)) ?_;have ne:s.heap.objs.size≠s.heap.objs.size+1:=Yk (aaZ _);refine⟨by rw[aG ne,ar],YB _,ne,e2,λ_=>none,(Heap.Ns1.of_empty e3).at λo q=>X2 _ q,λ_=>aay,λy hy=>absurd rfl hy⟩
theorem K7(hb:abe e f env (eval e env)=eval e env)(h:Yr (model prog w) A (eval e env) (λo s₁=>Yr (model prog w) A (getAttr o f true) Q E s₁) E s):Yr (model prog w) A (eval (.Attribute e f pos) env) Q E s :=
 Attribute_any_ h (by rw[arm_eval_Attribute,hb])
end
def Cq(K:XW)(ta:TE)(f:Str):TE:=λσ H Q=>ta σ H λx H1=>∃ a C dx fs v,x = .ref a/\H1 a=some (.ins C dx fs)/\b7 K C/\cj K C f/\fs.lookup f=some v/\Q v H1
def Cr(K:XW)(ta tv:TE)(f:Str):TS:=λD σ H=>tv σ H λy H1=>ta σ H1 λx H2=>∃ a C dx fs,x = .ref a/\H2 a=some (.ins C dx fs)/\b7 K C/\cj K C f/\fs.length<1000 /\
 D.nx σ (upd H2 a (.ins C dx (eM f y fs)))
section
theorem K8(he:PE X e ta)(hb:abe e f X.env (eval e X.env)=eval e X.env):PE X (.Attribute e f pos) (Cq X.K ta f):=by
 intro pins s σ H Q I h;refine K7 hb (aB (he pins s σ H _ I h) λu s1 zq=>?_);obtain⟨x,H1,I1,rx,a,C,dx,fs,v,ex,ea,c,n,l,q⟩:=zq;subst ex;obtain rfl:u=YC a:=rx;exact K5 I1 ea c n l λu' s2 I2 ru=>⟨v,H1,I2,ru,q⟩
theorem K9(ha:PE X o ta)(hv:PE X value tv)(hs:abL value (some (.Attribute o f pos')) pos.line X.env=pure false):PS X (.Assign [.Attribute o f pos'] value pos) (Cr X.K ta tv f):=by
 intro pins s σ H D I h;refine plainObj_wpAny_Assign_Attribute (aB (hv pins s σ H _ I h) λu s1 ⟨y,H1,I1,ry,q⟩=>aB (ha pins s1 σ H1 _ I1 q) λov s2 zq=>?_) hs;obtain⟨x,H2,I2,rx,a,C,dx,fs,ex,ea,c,n,l,q2⟩:=zq;subst ex;obtain rfl:ov=YC a:=rx;exact K6 I2 ea c n l ry λs3 I3=>⟨σ,_,I3,q2⟩
inductive c9(K:XW)(H:Hp):V->X7->Prop where
 | non:c9 K H .non (.type "NoneType")
 | bl (x:Bool):c9 K H (.bl x) (.type "bool")
 | int (i:Int):c9 K H (.int i) (.type "int")
 | str (x:Str):c9 K H (.str x) (.type "str")
 | flt (x:UInt64):c9 K H (.flt x) (.type "float")
 | lst {a:Ye} {xs:List V} (e:H a=some (.lst xs)):c9 K H (.ref a) (.type "list")
 | aO {a:Ye} {o:Obj} {xs:List V} (e:H a=some (.aO o (.lst xs))):c9 K H (.ref a) (.type "list")
 | tup {a:Ye} {xs:List V} (e:H a=some (.tup xs)):c9 K H (.ref a) (.type "tuple")
 | dK {a:Ye} {kvs:List (Key × V)} (e:H a=some (.dK kvs)):c9 K H (.ref a) (.type "dict")
 | dT {a:Ye} {kvs:List (List Key × V)} (e:H a=some (.dT kvs)):c9 K H (.ref a) (.type "dict")
 | ins {a C dx:Ye} {fs:List (Str × V)} (e:H a=some (.ins C dx fs)) (cl:b7 K C) (ha:YD K (.ref C) "__class__" = some (some (.builtin "object.__class__")))
  (hn:acq K (.builtin "object.__class__") "__get__" = some (some (.builtin "getset_descriptor.__get__"))) (Cs:PySem.W.takesIn K (.builtin "object.__class__")=some true)
  (hm:PySem.W.mroIn K C (.type "object")=some true):c9 K H (.ref a) (.ref C)
theorem La(I:Inv X pins σ H s)(rx:RelV x u)(ty:c9 X.K H x t)(e:Zy X.K t c=some b)(h:∀ tk,Q (.bool b) { s with toks:=tk }) :
 Yr (model X.prog X.w) A (call (.builtin "isinstance") [u,c]) Q E s:=by
 cases ty with
 | non=>cases (show u=Value.none from rx);exact Zp PySem.W.kitx_none I.b6 aay e (λz=>nomatch z) h
 | bl y=>cases (show u=ZE y from rx);exact Zp PySem.W.kitx_bool I.b6 aay e (λz=>nomatch z) h
 | int i=>obtain⟨t,q⟩:=(show ∃ t,u=aak i t from rx);cases q;exact Zp PySem.W.kitx_int I.b6 aay e (λz=>nomatch z) h
 | str y=>obtain⟨t,q⟩:=(show ∃ t,u=adR y t from rx);cases q;exact Zp PySem.W.kitx_str I.b6 aay e (λz=>nomatch z) h
 | flt y=>obtain⟨t,q⟩:=(show ∃ t,u=aeQ y t from rx);cases q;exact Zp PySem.W.kitx_float I.b6 aay e (λz=>nomatch z) h
 | @lst a xs ea =>
  cases (show u=YC a from rx);obtain⟨_,_,n,_,h1⟩:=(show bK X.prog X.w H s.heap a (.lst xs) from I.az a _ ea)
  exact Zp aej I.b6 ⟨_,h1,rfl⟩ e (λz=>nomatch z) h
 | @aO a ob xs ea =>
  cases (show u=YC a from rx);obtain⟨_,_,_,n,_,h1⟩:=(show bK X.prog X.w H s.heap a (.aO ob (.lst xs)) from I.az a _ ea)
  exact Zp aej I.b6 ⟨_,h1,rfl⟩ e (λz=>nomatch z) h
 | @tup a xs ea =>
  cases (show u=YC a from rx);obtain⟨_,_,_,p⟩:=(show bK X.prog X.w H s.heap a (.tup xs) from I.az a _ ea)
  obtain⟨o,h1,h2,_⟩:=p;exact Zp PySem.W.kitx_tuple I.b6 ⟨o,h1,h2⟩ e (λz=>nomatch z) h
 | @dK a kvs ea =>
  cases (show u=YC a from rx);obtain⟨_,_,vs,_,p⟩:=(show bK X.prog X.w H s.heap a (.dK kvs) from I.az a _ ea)
  obtain⟨o,es,ep,h1,h2,_⟩:=p;exact Zp aek I.b6 ⟨o,h1,h2.1⟩ e (λz=>nomatch z) h
 | @dT a kvs ea =>
  cases (show u=YC a from rx);obtain⟨_,_,xs,_,o,es,ep,h1,h2,_⟩:=(show bK X.prog X.w H s.heap a (.dT kvs) from I.az a _ ea)
  exact Zp aek I.b6 ⟨o,h1,h2.1⟩ e (λz=>nomatch z) h
 | @ins a C dx fs ea cl ha hn Cs hm =>
  cases (show u=YC a from rx);obtain⟨mA,O,_⟩:=ui I.az ea;obtain⟨od,J,_⟩:=O.look;exact Zp (PySem.W.kitx_own (cl.get _) cl.hd ha hn Cs hm) I.b6 J e (λz=>nomatch z) h
end
structure bP(k:Nat)(A:ZP):Prop where
 hd:A.handled=none
 dp:A.depth+3 * k+5<recursionLimit
 un:A.units+16 * k+200<adh
theorem bP.mono(r:bP k A)(h:j<=k):bP j A:=⟨r.hd,by have:=r.dp;omega,by have:=r.un;omega⟩
theorem bP.deeper(r:bP (k+1) A)(env:Env):bP k (A.deeper env) :=
 ⟨r.hd,by have:=r.dp;show A.depth+1+3 * k+5<_;omega,by have:=r.un;show A.units+3+16 * k+200<_;omega⟩
theorem Lb{A:ZP}{C:Ye}{us:List X7}{kw:List (Str × X7)}:(A.under (.builtin "type.__call__" ⟨.ref C::us,kw⟩)).depth=A.depth+1:=by
 first|rfl|simp[aeC,Code.weight,Code.isCreation,Code.isGuard,Code.isCaller,Code.frames,Code.isFrame,guardIds]
theorem Lc{A:ZP}{C:Ye}{us:List X7}{kw:List (Str × X7)}:(A.under (.builtin "type.__call__" ⟨.ref C::us,kw⟩)).units=A.units+1:=by
 first|rfl|simp[aeC,Code.cUnits,Code.frames,Code.isFrame]
theorem bP.make(r:bP (k+1) A)(C:Ye)(us:List X7)(kw:List (Str × X7)):bP k (A.under (.builtin "type.__call__" ⟨.ref C::us,kw⟩)) :=
 ⟨r.hd,by have:=r.dp;rw[Lb];omega,by have:=r.un;rw[Lc];omega⟩
theorem bP.depth(r:bP k A):A.depth<recursionLimit:=by have:=r.dp;omega
theorem bP.units(r:bP k A):A.units+64<adh:=by have:=r.un;omega
def mv:TA:=λ_ H Q=>Q [] H
def qb(ta:TE)(tr:TA):TA:=λσ H Q=>ta σ H λx H1=>tr σ H1 λxs H2=>Q (x::xs) H2
section
theorem ag:PA X [] mv:=λ_ _ _ _ H Q I h=>aal ⟨[],H,I,.nil,h⟩
theorem ae(ha:PE X e te)(hr:PA X es t)(hs:Yv (e::es) X.env=(false,eval e X.env)::Yv es X.env:=by rfl):PA X (e::es) (qb te t):=by
 intro pos pins s σ H Q I h;rw[hs];show Yr _ _ (spliced ((false,eval e X.env)::ZZ pos (Yv es X.env))) _ _ s;refine aae (aB (ha pins s σ H _ I h) λu s1 zq=>?_);obtain⟨x,H1,I1,r1,q1⟩:=zq;exact aB (hr pos pins s1 σ H1 _ I1 q1) λus s2 ⟨xs,H2,I2,r2,q2⟩=>⟨x::xs,H2,I2,.cons r1 r2,q2⟩
def Ct(t:TA):TE:=λσ H Q=>t σ H λxs H1=>xs.length<=Yt/\∀ p,H1 p=none->Q (.ref p) (upd H1 p (.tup xs))
def Cu(t:TA):TE:=λσ H Q=>t σ H λxs H1=>xs.length<=Yt/\∀ p,H1 p=none->Q (.ref p) (upd H1 p (.lst xs))
theorem aT(h:PA X es t):PE X (.Tuple es x1 pos) (Ct t):=by intro pins s σ H Q I hq;refine wpAny_Tuple_spliced (aB (h pos pins s σ H _ I hq) λus s1 ⟨xs,H1,I1,r,z,q⟩=>⟨by rw[<- r.length];exact z,?_⟩);have hf:H1 s1.heap.objs.size=none:=I1.az.fresh (X9 _);refine⟨.ref s1.heap.objs.size,upd H1 s1.heap.objs.size (.tup xs),I1.laid (t':=s1.toks) (λb u e=>X2 _ e) (X9 _) ?_,rfl,q _ hf⟩;exact⟨z,us,r,⟨_,Ya _ rfl,rfl,_,rfl⟩⟩
theorem ck(h:PA X es t):PE X (.List es pos) (Cu t):=by intro pins s σ H Q I hq;refine wpAny_List_spliced (aB (h pos pins s σ H _ I hq) λus s1 ⟨xs,H1,I1,r,z,q⟩=>⟨by rw[<- r.length];exact z,?_⟩);have hf:H1 s1.heap.objs.size=none:=I1.az.fresh (X9 _);refine⟨.ref s1.heap.objs.size,upd H1 s1.heap.objs.size (.lst xs),I1.laid (t':=s1.toks) (λb u e=>X2 _ e) (X9 _) ?_,rfl,q _ hf⟩;exact⟨z,us,0,r,Ya _ rfl⟩
end
abbrev Sp:=List V->Hp->VK->XK->Prop
abbrev fX:=List Env->Hp->Yd->XK->X7->Yd->Prop
structure mw(P:Y0)(w:Zw)(K:XW)(mg:Str->Option X7)(base:aax)(A:ZP)(outer:List Env)(s:Yd)(H:Hp):Prop where
 frames:A.frames=some outer
 mod:Mod K mg base
 bs:∀ b o,base.get? b=some o->s.heap.get? b=some o/\H b=none
 bsz:base.objs.size<=s.heap.objs.size
 gB:s.heap.FunFrames base outer
 frf:∀ b∈aX outer,H b=none
 az:bU P w H s.heap
 bare:ac9 s.gens
def CE(outer:List Env)(P:Y0)(w:Zw)(H:Hp)(s:Yd)(Q:VK)(u:X7)(s':Yd):Prop :=
 ∃ v H',s'.os=s.os/\ac9 s'.gens/\Un (aX outer) [] H H' s.heap s'.heap/\bU P w H' s'.heap/\RelV v u/\Q v H'
def CR(CX:fX)(outer:List Env)(P:Y0)(w:Zw)(H:Hp)(s:Yd)(Q:VK)(E:XK)(r:adY)(s':Yd):Prop :=
 match r with
 | .ok (.ret u)=>CE outer P w H s Q u s'
 | .ok _=>False
 | .error e=>CX outer H s E e s'
structure dP(P:Y0)(w:Zw)(K:XW)(mg:Str->Option X7)(base:aax)(CX:fX)(k:Nat)(f:Ye)(fd:aa0)(ps:List Str)(sp:Sp):Prop where
 len:∀ vs H Q E,sp vs H Q E->vs.length=ps.length
 run:∀ (A:ZP) (outer:List Env) (s:Yd) (H:Hp) (args:Args) (us:List X7) (vs:List V) (Q:VK) (E:XK),bP k A->mw P w K mg base A outer s H->ael s fd args (ps.zip us)->Vals vs us->sp vs H Q E ->
  aaS (model P w) A (.call (.ref f) args) (CR CX outer P w H s Q E) s
theorem mw.make{P:Y0}{w:Zw}{K:XW}{mg:Str->Option X7}{base:aax}{A:ZP}{outer:List Env}{s:Yd}{H:Hp}(e:mw P w K mg base A outer s H)(C:Ye)(us:List X7)(kw:List (Str × X7)) :
 mw P w K mg base (A.under (.builtin "type.__call__" ⟨.ref C::us,kw⟩)) outer s H:=⟨by first|exact e.frames|(simpa [aeC,Code.envs,Code.isFrame,pushEnvs] using e.frames),e.mod,e.bs,e.bsz,e.gB,e.frf,e.az,e.bare⟩
section
theorem Inv.Cv(I:Inv X pins σ H s):mw X.prog X.w X.K X.mg X.base X.A X.stack s H :=
 ⟨I.ok.frames,I.ok.mod,I.bs,X5 I.ok.bsz I.sz,I.stack,I.pM,I.az,I.bare⟩
theorem Inv.after(I:Inv X pins σ H s)(h:CE X.stack X.prog X.w H s Q u s'):EP X pins σ Q u s':=by obtain⟨v,H',os,bare,un,az,r,q⟩:=h;obtain⟨hh,g,d,t,nV⟩:=s';obtain rfl:nV=s.os:=os;exact⟨v,H',I.call (h':=hh) (g':=g) (d':=d) (t':=t) (ch:=[]) un az bare (λb z=>absurd z (by simp)),r,q⟩
end
def qc(sp:Sp)(cC:List V)(E:XK)(t:TA):TE:=λσ H Q=>t σ H λvs H1=>sp (vs++cC) H1 Q E
def wV(C:Ye)(m:Str)(sp:Sp)(cC:List V)(E:XK)(ta:TE)(t:TA):TE:=λσ H Q=>ta σ H λx H1=>∃ a dx fs,x = .ref a/\H1 a=some (.ins C dx fs)/\fs.lookup m=none /\
 t σ H1 λvs H2=>sp (x::(vs++cC)) H2 Q E
def Cw(C:Ye)(sp:Sp)(cC:List V)(E:XK)(t:TA):TE:=λσ H Q=>t σ H λvs H1=>∀ x dx,H1 x=none->H1 dx=none->dx≠x ->
 sp (.ref x::(vs++cC)) (upd (upd H1 dx (.own x)) x (.ins C dx [])) (λv H2=>v = .non/\Q (.ref x) H2) E
def Binds(K:XW)(fd:aa0)(ps:List Str)(ds:List X7):Prop :=
 ∀ (s:Yd) (us:List X7),K.In s.heap->(us++ds).length=ps.length->ael s fd ⟨us,[]⟩ (ps.zip (us++ds))
theorem Binds.all{K:XW}{fd:aa0}{ps:List Str}(h:∀ us:List X7,us.length=ps.length->bindArgs fd ⟨us,[]⟩=pure (ps.zip us)):Binds K fd ps []:=λs us _ hl=>by rw[aeS] at hl ⊢;exact .of_eq (h us hl)
def Passes(CX:fX)(X:Cx)(E:XK):Prop:=∀ (pins:List (Ye × Obj)) (σ:St) (H:Hp) (s:Yd) (e:X7) (s':Yd),Inv X pins σ H s->CX X.stack H s E e s'->X.xe e s'
section
theorem qd(F:dP X.prog X.w X.K X.mg X.base CX k f fd ps sp)(hr:bP k X.A)(hb:Binds X.K fd ps ds)(hd:Vals cC ds)(hx:Passes CX X E)(I:Inv X pins σ H s)(r:Vals vs us)(h:sp (vs++cC) H Q E):Yr (model X.prog X.w) X.A (call (.ref f) us) (EP X pins σ Q) X.xe s:=by
 have r2:Vals (vs++cC) (us++ds):=r.append hd;have hl:(us++ds).length=ps.length:=by rw[<- r2.length];exact F.len _ _ _ _ h
 refine aem (aby (F.run X.A X.stack s H ⟨us,[]⟩ (us++ds) (vs++cC) Q E hr I.Cv (hb s us I.b6 hl) r2 h) λr s' hq=>?_);cases r with
 | error e=>exact hx pins σ H s e s' I hq
 | ok fl =>
  cases fl with
  | ret u=>exact I.after hq
  | next=>exact aac hq
  | brk=>exact aac hq
  | cont=>exact aac hq
theorem bQ(F:dP X.prog X.w X.K X.mg X.base CX k f fd ps sp)(hr:bP k X.A)(hg:Gl X x)(hm:X.mg x=some (.ref f))(hk:Zx X.K (.ref f)=true)(hb:Binds X.K fd ps ds)(hd:Vals cC ds)(hx:Passes CX X E)(ha:PA X (e::es) t)(fY:(x == ("__debug__" : Str))=false:=by decide)(he:Yv (e::es) X.env=(false,eval e X.env)::Yv es X.env:=by rfl)(eN:(ZZ pos (Yv es X.env)).any (·.1)=false:=by rfl) :
 PE X (.Call (.Name x p) (e::es) [] pos) (qc sp cC E t):=by
 intro pins s σ H Q I h;refine ZA (tW I hg hm ?_ fY);refine abf (h₀:=X.base) I.ok.mod.kin hk (aB (ha pos pins s σ H _ I h) λus s1 ⟨vs,H1,I1,r,q⟩=>⟨I1.b6,?_⟩) he eN;exact qd F hr hb hd hx I1 r q
theorem i4(he:PE X o ta)(c:b7 X.K C)(hm:Meth X.K C m f)(F:dP X.prog X.w X.K X.mg X.base CX k f fd ps sp)(hr:bP k X.A)(hb:Binds X.K fd ps ds)(hd:Vals cC ds)(hx:Passes CX X E)(ha:PA X (e::es) t)(bV:Yv (e::es) X.env=(false,eval e X.env)::Yv es X.env:=by rfl)(eN:(ZZ pos (Yv es X.env)).any (·.1)=false:=by rfl)(ht:eval (.Call (.Attribute o m apos) (e::es) [] pos) X.env=(do
 let ov <- eval o X.env
 aeg apos.atName
 let (f,first) <- holding [ov] (adf ov m pl)
 afy pos f first (ZZ pos (Yv (e::es) X.env)) (adt pos (abp [] X.env))):=by rfl) :
 PE X (.Call (.Attribute o m apos) (e::es) [] pos) (wV C m sp cC E ta t):=by
 intro pins s σ H Q I h;refine aaH (pl:=pl) (aB (he pins s σ H _ I h) λu s1 zq=>?_) ht;obtain⟨x,H1,I1,rx,a,dx,fs,ex,ea,l,q⟩:=zq;subst ex;obtain rfl:u=YC a:=rx;refine wU I1 ea c hm l ?_;refine abf (first:=[.ref a]) (h₀:=X.base) I.ok.mod.kin hm.kp (aB (ha pos pins s1 σ H1 _ I1 q) λus s2 ⟨vs,H2,I2,r,q2⟩=>⟨I2.b6,?_⟩) bV eN;exact qd (us:=.ref a::us) (vs:=.ref a::vs) F hr hb hd hx I2 (.cons rfl r) q2
theorem Cy(he:PE X o ta)(c:b7 X.K C)(hm:Meth X.K C m f)(F:dP X.prog X.w X.K X.mg X.base CX k f fd ps sp)(hr:bP k X.A)(hb:Binds X.K fd ps ds)(hd:Vals cC ds)(hx:Passes CX X E)(ht:eval (.Call (.Attribute o m apos) [] [] pos) X.env=(do
 let ov <- eval o X.env
 aeg apos.atName
 let (f,first) <- holding [ov] (adf ov m pl)
 afy pos f first (ZZ pos (Yv [] X.env)) (adt pos (abp [] X.env))):=by rfl) :
 PE X (.Call (.Attribute o m apos) [] [] pos) (wV C m sp cC E ta mv):=by
 intro pins s σ H Q I h;refine aaH (pl:=pl) (aB (he pins s σ H _ I h) λu s1 zq=>?_) ht;obtain⟨x,H1,I1,rx,a,dx,fs,ex,ea,l,q⟩:=zq;subst ex;obtain rfl:u=YC a:=rx;refine wU I1 ea c hm l ?_;exact adK (first:=[.ref a]) I1.b6 hm.kp (qd (us:=[.ref a]) (vs:=[.ref a]) F hr hb hd hx I1 (.cons rfl .nil) q)
structure Mk(K:XW)(C f:Ye):Prop where
 makes:aaG K C=true
 init:YD K (.ref C) "__init__" = some (some (.ref f))
 fn:ade K (.ref f)=true
 kp:Zx K (.ref C)=true
theorem Ld(M:Mk X.K C f)(F:dP X.prog X.w X.K X.mg X.base CX k f fd ps sp)(hr:bP (k+1) X.A)(hb:Binds X.K fd ps ds)(hd:Vals cC ds)(hx:Passes CX X E)(I:Inv X pins σ H s)(r:Vals vs us)(h:∀ x dx,H x=none->H dx=none->dx≠x->sp (.ref x::(vs++cC)) (upd (upd H dx (.own x)) x (.ins C dx [])) (λv H2=>v = .non/\Q (.ref x) H2) E) :
 Yr (model X.prog X.w) X.A (call (.ref C) us) (EP X pins σ Q) X.xe s:=by
 have hq:=h (s.heap.objs.size+1) s.heap.objs.size (I.az.fresh (abO _)) (I.az.fresh (X9 _)) (Yk (aaZ _));have I2:=Inv.made (C:=C) I;have r2:Vals (V.ref (s.heap.objs.size+1)::(vs++cC)) (YC (s.heap.objs.size+1)::(us++ds)):=.cons rfl (r.append hd);have hl:(YC (s.heap.objs.size+1)::us++ds).length=ps.length:=by have e:=r2.length;rw[F.len _ _ _ _ hq] at e;exact e.symm
 refine aem (K2 (f:=f) I.b6 M.makes M.init (beq_iff_eq.mp M.fn) (aby (F.run _ X.stack _ _ ⟨YC (s.heap.objs.size+1)::us,[]⟩ (YC (s.heap.objs.size+1)::(us++ds)) _ _ E (hr.make C us [])
  (I2.Cv.make C us []) (hb _ (YC (s.heap.objs.size+1)::us) I2.b6 hl) r2 hq) λr s' qe=>?_))
 cases r with
 | error e=>exact hx pins σ _ _ e s' I2 qe
 | ok fl =>
  cases fl with
  | ret u =>
   obtain⟨v,H',I3,rv,ev,q3⟩:=I2.after qe;subst ev;exact⟨rv,⟨V.ref (s.heap.objs.size+1),H',I3,rfl,q3⟩⟩
  | next=>exact aac qe
  | brk=>exact aac qe
  | cont=>exact aac qe
theorem uj(M:Mk X.K C f)(F:dP X.prog X.w X.K X.mg X.base CX k f fd ps sp)(hr:bP (k+1) X.A)(hg:Gl X x)(hm:X.mg x=some (.ref C))(hb:Binds X.K fd ps ds)(hd:Vals cC ds)(hx:Passes CX X E)(ha:PA X (e::es) t)(fY:(x == ("__debug__" : Str))=false:=by decide)(he:Yv (e::es) X.env=(false,eval e X.env)::Yv es X.env:=by rfl)(eN:(ZZ pos (Yv es X.env)).any (·.1)=false:=by rfl) :
 PE X (.Call (.Name x p) (e::es) [] pos) (Cw C sp cC E t):=by
 intro pins s σ H Q I h;refine ZA (tW I hg hm ?_ fY);refine abf (h₀:=X.base) I.ok.mod.kin M.kp (aB (ha pos pins s σ H _ I h) λus s1 ⟨vs,H1,I1,r,q⟩=>⟨I1.b6,?_⟩) he eN;exact Ld M F hr hb hd hx I1 r q
end
structure qf(N P:List Str)(sc:acU):Prop where
 kind:sc.kind = .function
 co:sc.isCoroutine=false
 gen:sc.isGenerator=false
 nd:N.Nodup
 pre:N.take P.length=P
 par:∀ x∈P,sc.names.lookup x=some .local∨sc.names.lookup x=some .cell
 nofree:∀ y∈sc.names,y.2 ≠ .free
theorem Cz{acr:Str->Option acE}{x:Str}:∀ {binds:List (Str × X7)} {m:Str->Option X7},(∀ v,(x,v)∉binds)->afZ acr binds m x=m x
 | [],_,_=>rfl
 | (n,v)::r,m,h=>by
  unfold afZ;rw[Cz λw hw=>h w (YU _ hw)];split
  .have:x≠n:=by rintro rfl;exact h v aaB
   simp[this]
  .rfl
theorem CA{acr:Str->Option acE}{x:Str}:∀ {binds:List (Str × X7)} {m:Str->Option X7},(∀ v,(x,v)∉binds)->af0 acr binds m x=m x
 | [],_,_=>rfl
 | (n,v)::r,m,h=>by
  unfold af0;rw[CA λw hw=>h w (YU _ hw)];split
  .rfl
  .have:x≠n:=by rintro rfl;exact h v aaB
   simp[this]
theorem CB{acr:Str->Option acE}{x:Str}{v:X7}:∀ {P:List Str} {vs:List X7} {i:Nat} {m:Str->Option X7},P.Nodup->P[i]?=some x->vs[i]?=some v->acr x=some .local ->
 afZ acr (P.zip vs) m x=some v
 | [],_,_,_,_,h,_,_=>by simp at h
 | _::_,[],_,_,_,_,h,_=>by simp at h
 | p::P,w::vs,0,m,nd,h1,h2,hk=>by simp at h1 h2;subst h1;subst h2;show afZ acr ((p,w)::P.zip vs) m p=_;unfold afZ;rw[Cz λv hv=>(Zq.mp nd).1 (adi hv).1,if_pos hk];simp
 | p::P,w::vs,i+1,m,nd,h1,h2,hk=>by show afZ acr ((p,w)::P.zip vs) m x=_;unfold afZ;exact CB (i:=i) (Zq.mp nd).2 (by simpa using h1) (by simpa using h2) hk
theorem CC{acr:Str->Option acE}{x:Str}{v:X7}:∀ {P:List Str} {vs:List X7} {i:Nat} {m:Str->Option X7},P.Nodup->P[i]?=some x->vs[i]?=some v->acr x≠some .local ->
 af0 acr (P.zip vs) m x=some v
 | [],_,_,_,_,h,_,_=>by simp at h
 | _::_,[],_,_,_,_,h,_=>by simp at h
 | p::P,w::vs,0,m,nd,h1,h2,hk=>by simp at h1 h2;subst h1;subst h2;show af0 acr ((p,w)::P.zip vs) m p=_;unfold af0;rw[CA λv hv=>(Zq.mp nd).1 (adi hv).1,if_neg hk];simp
 | p::P,w::vs,i+1,m,nd,h1,h2,hk=>by show af0 acr ((p,w)::P.zip vs) m x=_;unfold af0;exact CC (i:=i) (Zq.mp nd).2 (by simpa using h1) (by simpa using h2) hk
noncomputable def start(N:List Str)(vs:List V):St:=vs.map some++YT (N.length-vs.length) none
noncomputable def eO(CX:fX)(P:Y0)(w:Zw)(K:XW)(mg:Str->Option X7)(base:aax)(N:List Str)(qual:Str)(scope:acU)(f:Ye)(cd:X7)(A:ZP)(outer:List Env)(s:Yd)(H:Hp)(E:XK):Cx where
 prog:=P
 w:=w
 K:=K
 mg:=mg
 base:=base
 A:=A.deeper (ZR qual scope s.heap.objs.size f cd)
 N:=N
 s₀:=s
 H₀:=H
 env:=ZR qual scope s.heap.objs.size f cd
 outer:=outer
 stack:=ZR qual scope s.heap.objs.size f cd::outer
 ex:=[]
 calm:=true
 fn:=λ_=>true
 pn:=[]
 xe:=λe s'=>Yr (model P w) (A.deeper (ZR qual scope s.heap.objs.size f cd)) (leaving (ZR qual scope s.heap.objs.size f cd) e) (λ_ qg=>CX outer H s E e qg) (λe' qg=>CX outer H s E e' qg) s'
theorem CD{sc:acU}{n:Nat}{x:Str}(h:sc.names.lookup x=some .cell):∃ c,(cellsFrom n sc.names []).lookup x=some c:=by have q:=acY sc.names n [] (.inl h);exact aam.mp q
theorem Le{CX:fX}{P:Y0}{w:Zw}{K:XW}{mg:Str->Option X7}{base:aax}{N ps:List Str}{qual:Str}{scope:acU}{f:Ye}{cd:X7}{A:ZP}{outer:List Env}{s s1:Yd}{H:Hp}{E:XK}{us:List X7}{vs:List V}
 (S:qf N ps scope) (hd:A.handled=none) (e0:mw P w K mg base A outer s H) (hl:vs.length=ps.length) (r:Vals vs us)
 (x:InCallC s s.heap.objs.size (afZ (ZR qual scope s.heap.objs.size f cd).kindOf (ps.zip us) λ_=>none) (cellsFrom (s.heap.objs.size+1) scope.names []) (af0 (ZR qual scope s.heap.objs.size f cd).kindOf (ps.zip us) λ_=>none) s1) :
 Inv (eO CX P w K mg base N qual scope f cd A outer s H E) [] (start N vs) H s1:=by
 have eN:ps.length<=N.length:=by have:=congrArg List.length S.pre;rw[aa1] at this;omega
 obtain⟨h1,tk,rfl,hk⟩:=x.done;have fZ:∀ b:Ye,b∉(eO CX P w K mg base N qual scope f cd A outer s H E).ex:=λb z=>absurd (show b∈([]:List Ye) from z) (by simp);refine⟨⟨e0.mod,S.kind,rfl,rfl,X9 _,λy z c h1 h2=>?_,λy hy=>?_,λy c _ h=>?_,λ_=>hd,Around.frames_deeper e0.frames,.inr ⟨rfl,rfl⟩,λb z=>absurd z (fZ b),e0.bs,e0.bsz,λb _ _=>fZ b,λb z=>absurd z (fZ b),e0.gB,e0.frf⟩,
  rfl,e0.bare,Un.kept hk,⟨_,x.toInCall.ns,λi y v h1 h2 h3=>?_⟩,λy c h=>⟨_,x.cell y c h⟩,e0.az.fresh (X9 _),λy c h=>?_,λp hp=>absurd (show p∈([]:List (Ye × Obj)) from hp) (by simp),e0.az.kept hk,?_⟩
 .exact name_of_addr x.apart (Z4 h1) (Z4 h2)
 .have hy:scope.names.lookup y=some .cell∨scope.names.lookup y=some .free:=hy;rcases hy with hy|hy
  .exact CD hy
  .exact absurd rfl (S.nofree _ (Z4 hy))
 .exact abx (x.above y c (Z4 h))
 .have hi:i<vs.length:=by
   unfold start at h2;by_cases hi:i<vs.length
   .exact hi
   .rw[Za (by simpa using hi)] at h2;rw[ZW] at h2;split at h2<;>cases h2
  have ha:vs[i]?=some v:=by
   unfold start at h2;rw[YX (by simpa using hi),Yf] at h2;cases e:vs[i]? with
   | none=>rw[e] at h2;cases h2
   | some a=>rw[e] at h2;cases h2;rfl
  obtain⟨u,hu,rv⟩:=r.get ha;have hp:ps[i]?=some y:=by rw[<- S.pre,List.getElem?_take_of_lt (by omega)];exact h1
  have CF:ps.Nodup:=by rw[<- S.pre];exact S.nd.sublist (List.take_sublist _ _)
  refine⟨u,rv,?_⟩;rcases S.par y (Yo hp) with k|k
  .exact .inl ⟨k,CB CF hp hu k⟩
  .obtain⟨c,e⟩:=CD (n:=s.heap.objs.size+1) k;refine .inr ⟨.inl k,c,e,?_⟩;have q:=x.cell y c e;rw[CC CF hp hu (by show scope.names.lookup y≠_;rw[k];decide)] at q;exact q
 .exact e0.az.fresh (abx (x.above y c (Z4 h)))
 .unfold start;show _=N.length;rw[Yh,XY,aaf];omega
theorem CG{CX:fX}{P:Y0}{w:Zw}{K:XW}{mg:Str->Option X7}{base:aax}{k:Nat}{f:Ye}{name qual:Str}{params:Arguments}{body:List ZO}{scope:acU}{dV kV doc pm aV ct oc:X7}{an od:Option Ye}
 {i5:Array (Option X7)} {N ps:List Str} {sp:Sp} (lk:K.lookup f=some ⟨oc,od,.func (aaI name qual params body scope dV kV doc pm an aV ct),i5⟩) (fq:acd K aV qual=true) (S:qf N ps scope)
 (len:∀ vs H Q E,sp vs H Q E->vs.length=ps.length)
 (f6:∀ (A:ZP) (outer:List Env) (s:Yd) (H:Hp) (vs:List V) (Q:VK) (E:XK),bP k (A.deeper (ZR qual scope s.heap.objs.size f aV))->sp vs H Q E ->
   ∃ t,aP (eO CX P w K mg base N qual scope f aV A outer s H E) body t/\t { nx:=λ_ H'=>Q .non H',rt:=Q } (start N vs) H) :
 dP P w K mg base CX (k+1) f (aaI name qual params body scope dV kV doc pm an aV ct) ps sp:=by
 refine⟨len,λA outer s H args us vs Q E hr e0 hb r kU=>?_⟩;have hl:=len _ _ _ _ kU;have KX:K.In s.heap:=e0.mod.kin.keeps λb o e=>(e0.bs b o e).1;have lim:s.heap.NoLimit:=e0.mod.nolimit.keeps λb o e=>(e0.bs b o e).1;have Lf:∀ y∈ps.zip us,scope.names.lookup y.1=some .local∨(scope.names.lookup y.1=some .cell/\((cellsFrom (s.heap.objs.size+1) scope.names []).lookup y.1).isSome=true):=λ⟨n,v⟩ hy=>by
  rcases S.par n (adi hy).1 with q|q
  .exact .inl q
  .exact .inr ⟨q,acY _ _ _ (.inl q)⟩
 refine codeAny_call_function hr.depth (KX _ _ lk) rfl S.co S.gen rfl (PySem.W.codeRec_of KX fq) (hb _ _ _ _ ?_);refine wpAny_newFunctionEnv_cells S.kind Lf λenv he s1 x=>?_;subst he;refine⟨lim.keeps x.toInCall.keep,codeAny_func ?_⟩;obtain⟨t,ht,hq⟩:=f6 A outer s H vs Q E (hr.deeper _) kU;have I:Inv (eO CX P w K mg base N qual scope f aV A outer s H E) [] (start N vs) H s1:=Le S hr.hd e0 hl r x;refine Zl (ht [] s1 (start N vs) H _ I hq) (λfl s' hs=>?_) λe s' hs=>hs;have fin:∀ {σ':St} {H':Hp} {v:V} {u:X7},Inv (eO CX P w K mg base N qual scope f aV A outer s H E) [] σ' H' s'->RelV v u->Q v H'->CE outer P w H s Q u s' :=
  λ{σ' H' v u} J rv q=>⟨v,H',J.os,J.bare,J.base,J.az,rv,q⟩
 cases fl with
 | ret u =>
  obtain⟨v,σ',H',J,rv,q⟩:=hs;exact fin J rv q
 | next =>
  obtain⟨σ',H',J,q⟩:=hs;exact fin (v:=V.non) (u:=Value.none) J rfl q
 | brk =>
  obtain⟨_,_,_,q⟩:=hs;exact aac q
 | cont =>
  obtain⟨_,_,_,q⟩:=hs;exact aac q
section
variable{X:Cx}{x:Str}{p pos:Pos}{e:abD}{es:List abD}{t:TA}{id T:String}{r:List V->Hp->VK->Prop}
def CH(r:List V->Hp->VK->Prop)(t:TA):TE:=λσ H Q=>t σ H λvs H1=>r vs H1 Q
theorem aY(hc:fu X (.builtin id) r)(hg:Gl X x)(hm:X.mg x=none)(hv:YO x=some (.builtin id))(ha:PA X (e::es) t)(hn:x ≠ "__name__" := by decide)(fY:(x == ("__debug__" : Str))=false:=by decide)(he:Yv (e::es) X.env=(false,eval e X.env)::Yv es X.env:=by rfl)(eN:(ZZ pos (Yv es X.env)).any (·.1)=false:=by rfl):PE X (.Call (.Name x p) (e::es) [] pos) (CH r t):=by intro pins s σ H Q I h;refine ZA (ft I hg hm hv ?_ hn fY);exact aar (aB (ha pos pins s σ H _ I h) λus s1 ⟨vs,H1,I1,r1,q1⟩=>hc pins s1 σ H1 vs us Q I1 r1 q1) he eN
end
end L2
namespace HT
open PySem PyProof.Rows
noncomputable def lexLt:List Int->List Int->Bool
 | [],[]=>false
 | [],_::_=>true
 | _::_,[]=>false
 | x::xs,y::ys=>if x=y then lexLt xs ys else decide (x<y)
theorem nW(x y:Int)(xs ys:List Int):lexLt (x::xs) (y::ys)=if x=y then lexLt xs ys else decide (x<y):=rfl
section
open PySem.SeqAt
open PySem.AutoSeq1 (wpAny_loadPart')
open PySem.MeetsSeq PySem.MeetsSeq2 PySem.MeetsSeq3
end
section
noncomputable def eQ(n d:Nat):Option Int->Nat
 | none=>d
 | some v=>if v<0 then (v+(n:Int)).toNat else min v.toNat n
theorem Lg(n d:Nat):eQ n d none=d:=rfl
theorem Lh(n d k:Nat):eQ n d (some (k:Int))=min k n:=by show (if (k:Int)<0 then ((k:Int)+(n:Int)).toNat else min (k:Int).toNat n)=min k n;rw[if_neg (by omega),YS]
end
end HT
namespace L2
open PySem PySem.Spec PyProof.Rows
abbrev TO:=St->Hp->(Option Int->Hp->Prop)->Prop
def PO(X:Cx)(e:Option abD)(t:TO):Prop :=
 ∀ (pins:List (Ye × Obj)) (s:Yd) (σ:St) (H:Hp) (Q:Option Int->Hp->Prop),Inv X pins σ H s->t σ H Q ->
  Yr (model X.prog X.w) X.A (evalPart e X.env) (λu s'=>∃ o H',Inv X pins σ H' s'/\IsPart u o/\Q o H') X.xe s
noncomputable def CI:TO:=λ_ H Q=>Q none H
noncomputable def CJ(t:TE):TO:=λσ H Q=>t σ H λx H1=>∃ i,x = .int i/\Q (some i) H1
theorem intsAre_of:∀ {us:List X7},Vals (ns.map V.int) us->acF us ns:=by
 induction ns with
 | nil=>intro us r;rw[ab7] at r;cases r;exact .nil
 | cons n ns ih =>
  intro us r;rw[Ys] at r;cases r with
  | cons r1 r2 =>
   obtain⟨t,e⟩:=r1;subst e;exact .cons n t (ih r2)
section
variable{X:Cx}{e:abD}{te:TE}{lo hi:Option abD}{tl th:TO}{pos p2:Pos}
theorem Li:PO X none CI:=by intro pins s σ H Q I h;rw[adZ];exact X3 ⟨none,H,I,.none,h⟩
theorem Lj(h:PE X e te):PO X (some e) (CJ te):=by intro pins s σ H Q I hw;rw[evalPart_some];refine aB (h pins s σ H _ I hw) λu s1 zq=>?_;obtain⟨x,H1,I1,r1,q1⟩:=zq;obtain⟨i,rfl,q⟩:=q1;obtain⟨t,rfl⟩:=r1;exact⟨some i,H1,I1,.int i t,q⟩
def CK(X:Cx)(r:V->Option Int->Option Int->Hp->VK->Prop):Prop :=
 ∀ (pins:List (Ye × Obj)) (s:Yd) (σ:St) (H:Hp) (x:V) (v vl vu:X7) (lo hi:Option Int) (sl:Ye) (Q:VK),Inv X pins σ H s->RelV x v->s.heap.IsSliceOf sl vl vu .none->IsPart vl lo->IsPart vu hi->r x lo hi H Q ->
  ∃ T id,aen (.type T) "__getitem__" = pure (some (.builtin id))/\s.TypeIs v T/\Yr (model X.prog X.w) X.A (aeT v (.ref sl)) (EP X pins σ Q) X.xe s
def CL(r:V->Option Int->Option Int->Hp->VK->Prop)(te:TE)(tl th:TO):TE:=λσ H Q=>te σ H λx H1=>tl σ H1 λl H2=>th σ H2 λu H3=>r x l u H3 Q
theorem Ll{r:V->Option Int->Option Int->Hp->VK->Prop}(hr:CK X r)(he:PE X e te)(hl:PO X lo tl)(hu:PO X hi th):PE X (.Subscript e (.Slice lo hi none p2) pos) (CL r te tl th):=by intro pins s σ H Q I h;refine aeo (aB (he pins s σ H _ I h) λv s1 zq=>?_);obtain⟨x,H1,I1,r1,q1⟩:=zq;refine wpAny_Slice (aB (hl pins s1 σ H1 _ I1 q1) λvl s2 ⟨l,H2,I2,pl,q2⟩=>aB (hu pins s2 σ H2 _ I2 q2) λvu s3 zq=>?_);obtain⟨u,H3,I3,pu,q3⟩:=zq;rw[adZ];refine X3 ?_;have I4:Inv X pins σ H3 { s3 with heap:=s3.heap.push { cls:=.type "slice",data:=.fields #[vl,vu,.none] } }:=I3.kept (t':=s3.toks) λb ob q=>X2 _ q;obtain⟨T,id,hT,ht,hg⟩:=hr pins { s3 with heap:=s3.heap.push { cls:=.type "slice",data:=.fields #[vl,vu,.none] } } σ H3 x v vl vu l u s3.heap.objs.size Q I4 r1 (Heap.IsSliceOf.new ..) pl pu q3;show Yr (model X.prog X.w) X.A (acG e (.Slice lo hi none p2) v (.ref s3.heap.objs.size)) (EP X pins σ Q) X.xe { s3 with heap:=s3.heap.push { cls:=.type "slice",data:=.fields #[vl,vu,.none] } };exact tail_any (ops:=[.ref s3.heap.objs.size,v]) ht hT hg (by with_unfolding_all rfl)
noncomputable def my(xs:List V)(lo hi:Option Int):List V:=(xs.drop (HT.eQ xs.length 0 lo)).take (HT.eQ xs.length xs.length hi-HT.eQ xs.length 0 lo)
theorem Lm(xs:List V)(lo hi:Option Int):(my xs lo hi).length<=xs.length:=by unfold my;rw[aa1,acQ];omega
end
noncomputable def ip(n:Nat)(i:Int):Option Nat:=if 0<=i then (if i<n then some i.toNat else none) else if -(n:Int)<=i then some (i+n).toNat else none
noncomputable def cQ{α:Type}(xs:List α)(i:Int):Option α:=(ip xs.length i).bind λj=>xs[j]?
theorem CM(h:ip n i=some j):seqIndex? i n=some j/\j<n/\-(n:Int)<=i/\i<n:=by
 unfold ip at h;by_cases h0:0<=i
 .rw[if_pos h0] at h;by_cases h1:i<n
  .rw[if_pos h1] at h;have e:i.toNat=j:=Option.some.inj h;exact⟨by rw[aeU h0 h1,e],by omega,by omega,h1⟩
  .rw[if_neg h1] at h;cases h
 .rw[if_neg h0] at h;by_cases h1 : -(n:Int)<=i
  .rw[if_pos h1] at h;have e:(i+n).toNat=j:=Option.some.inj h;exact⟨by rw[aeD (by omega) h1,e],by omega,h1,by omega⟩
  .rw[if_neg h1] at h;cases h
theorem wW(h:cQ xs i=some v):∃ j,seqIndex? i xs.length=some j/\xs[j]?=some v/\j<xs.length/\-(xs.length:Int)<=i/\i<xs.length:=by
 unfold cQ at h;cases e:ip xs.length i with
 | none=>rw[e] at h;cases h
 | some j =>
  rw[e] at h;obtain⟨h1,h2,h3,h4⟩:=CM e;exact⟨j,h1,h,h2,h3,h4⟩
theorem cY{α:Type}{xs:List α}{j:Nat}{v:α}(h:xs[j]?=some v):cQ xs (j:Int)=some v:=by
 have hj:j<xs.length:=(X6.mp h).1;have e:ip xs.length (j:Int)=some j:=by unfold ip;rw[if_pos (by omega),if_pos (by omega)];simp
 unfold cQ;rw[e];exact h
theorem wX(xs:List α)(v:α):cQ (xs++[v]) (-1)=some v:=by
 have hl:(xs++[v]).length=xs.length+1:=by simp
 have e:ip (xs++[v]).length (-1)=some xs.length:=by
  unfold ip;rw[hl,if_neg (by decide),if_pos (by omega)]
  congr 1
  omega
 unfold cQ;rw[e];show (xs++[v])[xs.length]?=some v;simp
def wY(b:abD):Prop:=∀ o i,subscripted b false o i=operate [o,i] (aeT o i)
def i6(X:Cx)(r:R2):Prop :=
 ∀ (value slice:abD) (pins:List (Ye × Obj)) (s:Yd) (σ:St) (H:Hp) (x y:V) (v u:X7) (Q:VK),Inv X pins σ H s->RelV x v->RelV y u->r x y H Q ->
  subscripted slice false v u=operate [v,u] (aeT v u)->Yr (model X.prog X.w) X.A (acG value slice v u) (EP X pins σ Q) X.xe s
def CN(X:Cx)(id:String)(r:V->List V->Hp->VK->Prop):Prop :=
 ∀ (pins:List (Ye × Obj)) (s:Yd) (σ:St) (H:Hp) (x:V) (xs:List V) (v:X7) (us:List X7) (Q:VK),Inv X pins σ H s->RelV x v->Vals xs us->r x xs H Q ->
  Yr (model X.prog X.w) X.A (call (.builtin id) (v::us)) (EP X pins σ Q) X.xe s
section
variable{X:Cx}{a b:abD}{ta tb:TE}{pos:Pos}
theorem i6.or(h:i6 X r)(h':i6 X r'):i6 X (λx y H Q=>r x y H Q∨r' x y H Q):=by
 intro value slice pins s σ H x y v u Q I rx ry q hs;rcases q with q|q
 .exact h value slice pins s σ H x y v u Q I rx ry q hs
 .exact h' value slice pins s σ H x y v u Q I rx ry q hs
theorem bc(hr:i6 X r)(ha:PE X a ta)(hb:PE X b tb)(hs:wY b):PE X (.Subscript a b pos) (mj r ta tb):=by intro pins s σ H Q I h;exact aeo (wM ha hb I h λv u s2 x y H2 I2 rx ry q=>hr a b pins s2 σ H2 x y v u Q I2 rx ry q (hs _ _))
def CO(K:XW):R2:=λx y H Q=>∃ p xs i v,x = .ref p/\y = .int i/\ai K H p xs/\cQ xs i=some v/\Q v H
def CP(K:XW):R2:=λx y H Q=>∃ p xs i v,x = .ref p/\y = .int i/\ah K H p xs/\cQ xs i=some v/\Q v H
def CQ:R2:=λx y H Q=>∃ z i c,x = .str z/\y = .int i/\z.length<=Yt/\cQ z.cps.toList i=some c/\Q (.str ⟨#[c]⟩) H
theorem Ln:i6 X (CO X.K):=by
 intro value slice pins s σ H x y v u Q I rx ry h hs;obtain⟨p,xs,i,z,rfl,rfl,hq,he,q⟩:=h;cases rx;obtain⟨t,rfl⟩:=ry;obtain⟨aq,r,pl,hz⟩:=I.list hq;obtain⟨j,h1,h2,h3,h4,h5⟩:=wW he;obtain⟨w,ew,jT⟩:=r.get h2;have hl:=r.length;have hn:=p8;have fin:EP X pins σ Q w s:=⟨z,H,I,jT,q⟩
 by_cases h0:0<=i
 .have hj:i.toNat=j:=by rw[aeU h0 h5] at h1;exact Option.some.inj h1
  exact item_listR pl.isList h0 (by omega) (by rw[hj];simpa using ew) fin hs
 .have hj:(i+(aq.toArray.size:Int)).toNat=j:=by rw[aeD (by omega) h4] at h1;rw[Yg,<- hl];exact Option.some.inj h1
  exact acZ (x:=w) pl.isList.typeIs slot_list_getitem.lookup
   (wpAny_getItem_list_neg (Q:=λr s'=>r=w/\EP X pins σ Q r s') pl.isList (by omega) (by rw[Yg]<;>omega) (by omega) (by rw[hj];simpa using ew) ⟨rfl,fin⟩) hs
theorem Lo:i6 X (CP X.K):=by
 intro value slice pins s σ H x y v u Q I rx ry h hs;obtain⟨p,xs,i,z,rfl,rfl,hq,he,q⟩:=h;cases rx;obtain⟨t,rfl⟩:=ry;obtain⟨aq,r,pl,hz⟩:=I.tuple hq;obtain⟨j,h1,h2,h3,h4,h5⟩:=wW he;obtain⟨w,ew,jT⟩:=r.get h2;have hl:=r.length;have hn:=p8;have fin:EP X pins σ Q w s:=⟨z,H,I,jT,q⟩
 exact acZ (x:=w) pl.typeIs slot_tuple_getitem.lookup
  (getItem_tuple (j:=j) (Q:=λr s'=>r=w/\EP X pins σ Q r s') pl (by omega) (by omega) (by rw[Yg,<- hl];exact h1) (by simpa using ew) ⟨rfl,fin⟩) hs
theorem Lp:i6 X CQ:=by
 intro value slice pins s σ H x y v u Q I rx ry h hs;obtain⟨z,i,c,rfl,rfl,hz,he,q⟩:=h;obtain⟨t,rfl⟩:=rx;obtain⟨t',rfl⟩:=ry;obtain⟨j,h1,h2,h3,h4,h5⟩:=wW he;have hl:z.cps.toList.length=z.length:=by simp[Str.length]
 rw[hl] at h1 h4 h5;have hn:=p8;exact tail_any (typeIs_str s z t) slot_str_getitem.lookup (getItem_str (c:=c) (by
  have e1:decide (i < -(2 ^ 63:Int))=false:=decide_eq_false (by omega);have e2:decide (i ≥ 2 ^ 63)=false:=decide_eq_false (by omega);rw[e1,e2,Bool.or_false]) (by rw[h1];simpa using h2) ⟨.str ⟨#[c]⟩,H,I.tok _,⟨_,rfl⟩,q⟩) hs
def jU(K:XW):R2:=λx y H Q=>CO K x y H Q∨CP K x y H Q∨CQ x y H Q
theorem bf:i6 X (jU X.K):=Ln.or (Lo.or Lp)
theorem Lq(aq:List X7)(n j:Nat)(u:X7):Zm (·.setIfInBounds j u) { cls:=.type "list",data:=.seq aq.toArray n } = { cls:=.type "list",data:=.seq (aq.set j u).toArray n }:=by simp[Zm]
theorem Inv.lst(I:Inv X pins σ H s)(h:H p=some (.lst xs)) :
 ∃ (aq:List X7) (n:Nat),Vals xs aq/\s.heap.get? p=some { cls:=.type "list",data:=.seq aq.toArray n }/\xs.length<=Yt:=by
 obtain⟨z,aq,n,r,e⟩:=I.az p _ h;exact⟨aq,n,r,e,z⟩
theorem Inv.Lr{pins:List (Ye × Obj)}{σ:St}{H:Hp}{s:Yd}{p:Ye}{xs ys:List V}{aq its':List X7}{n n':Nat}{f:Obj->Obj}(I:Inv X pins σ H s)(h:H p=some (.lst xs))
 (ho:s.heap.get? p=some { cls:=.type "list",data:=.seq aq.toArray n }) (hf:f { cls:=.type "list",data:=.seq aq.toArray n } = { cls:=.type "list",data:=.seq its'.toArray n' }) (r:Vals ys its') (hz:ys.length<=Yt) (t:Nat) :
 Inv X pins σ (upd H p (.lst ys)) { s with heap:=s.heap.update p f,toks:=t }:=by
 have e:(s.heap.update p f).get? p=some { cls:=.type "list",data:=.seq its'.toArray n' }:=by rw[YQ f ho (by rw[hf]<;>rfl),hf]
 refine I.write (x:=p) (e:=p) (by rw[h];trivial) (.inl rfl) (λb u hb q=>(Yl _ _ (Y1 hb)).trans q) ⟨_,e⟩ ?_;exact⟨hz,its',n',r,e⟩
def CS:V->V->V->Hp->(Hp->Prop)->Prop:=λo i v H Q=>∃ p xs k j,o = .ref p/\i = .int k/\H p=some (.lst xs)/\ip xs.length k=some j/\Q (upd H p (.lst (xs.set j v)))
theorem set_list:B8 X CS:=by
 intro pins s σ H o i v ov iv u Q I ro ri rv h;obtain⟨p,xs,k,j,rfl,rfl,hp,hj,q⟩:=h;cases ro;obtain⟨t,rfl⟩:=ri;obtain⟨aq,n,r,ho,hz⟩:=I.lst hp;obtain⟨h1,h2,h3,h4⟩:=CM hj;have hl:=r.length;have hn:=p8;have I':Inv X pins σ (upd H p (.lst (xs.set j v))) { s with heap:=s.heap.update p (Zm (·.setIfInBounds j u)) } :=
  I.Lr hp ho (Lq aq n j u) (r.set rv j) (by rw[aeV];exact hz) s.toks
 by_cases h0:0<=k
 .have hk:k.toNat=j:=by rw[aeU h0 h4] at h1;exact Option.some.inj h1
  exact PySem.W.ki_setAt ho h0 (by omega) (by rw[Yg,<- hl];exact h4) (by rw[hk];exact⟨_,I',q⟩)
 .have hk:(k+(aq.toArray.size:Int)).toNat=j:=by rw[aeD (by omega) h3] at h1;rw[Yg,<- hl];exact Option.some.inj h1
  exact PySem.W.ki_setBack ho (by omega) (by rw[Yg,<- hl];exact h3) (by omega) (by rw[hk];exact⟨_,I',q⟩)
theorem Ls(lo hi:Option Int)(n:Nat):(aa6 lo hi none n).1=((HT.eQ n 0 lo:Nat):Int)/\(aa6 lo hi none n).2.1=((HT.eQ n n hi:Nat):Int)/\(aa6 lo hi none n).2.2=1:=by
 refine⟨?_,?_,rfl⟩
 .cases lo with
  | none=>simp[aa6,HT.eQ]
  | some i =>
   simp only[aa6,HT.eQ,Option.getD_none,show (1:Int) > 0 by decide,if_true];by_cases h:i<0
   .simp only[h,if_true]<;>omega
   .simp only[h,if_false]<;>omega
 .cases hi with
  | none=>simp[aa6,HT.eQ]
  | some i =>
   simp only[aa6,HT.eQ,Option.getD_none,show (1:Int) > 0 by decide,if_true];by_cases h:i<0
   .simp only[h,if_true]<;>omega
   .simp only[h,if_false]<;>omega
theorem Lu(aq:List X7)(lo hi:Option Int):aeW aq.toArray lo hi none=((aq.drop (HT.eQ aq.length 0 lo)).take (HT.eQ aq.length aq.length hi-HT.eQ aq.length 0 lo)).toArray:=by obtain⟨h1,h2,h3⟩:=Ls lo hi aq.toArray.size;unfold aeW;rw[h1,h2,h3];simp only[sliceRange_one,pick_run,Yg]<;>rfl
def CT(K:XW):V->Option Int->Option Int->Hp->VK->Prop:=λx lo hi H Q=>∃ a xs,x = .ref a/\ai K H a xs/\∀ p,H p=none->Q (.ref p) (upd H p (.lst (my xs lo hi)))
theorem Lv:CK X (CT X.K):=by intro pins s σ H x v vl vu lo hi sl Q I rx hs pl pu h;obtain⟨a,xs,rfl,hx,q⟩:=h;cases rx;obtain⟨aq,r,ht,hz⟩:=I.list hx;have hlen:=r.length;refine⟨"list",_,slot_list_getitem.lookup,ht.isList.typeIs,?_⟩;refine acs ht.isList hs pl pu .none (by simp) ?_ (by rw[Yg]<;>omega);rw[Lu,<- hlen];refine⟨.ref s.heap.objs.size,_,I.laid (t':=s.toks) (o:=.lst (my xs lo hi)) (λb ob q=>X2 _ q) (X9 _) ?_,rfl,q _ (I.az.fresh (X9 _))⟩;exact⟨X5 (Lm xs lo hi) hz,_,0,(r.drop (HT.eQ xs.length 0 lo)).take (HT.eQ xs.length xs.length hi-HT.eQ xs.length 0 lo),Ya _ rfl⟩
noncomputable def i7:V->Bool
 | .non=>true
 | .bl _=>true
 | .int _=>true
 | .str _=>true
 | _=>false
noncomputable def i8:V->V->Bool
 | .non,.non=>true
 | .bl a,.bl b=>a == b
 | .bl a,.int b=>(if a then 1 else 0) == b
 | .int a,.bl b=>a == (if b then 1 else 0)
 | .int a,.int b=>a == b
 | .str a,.str b=>a == b
 | _,_=>false
theorem Lw(ry:RelV y u)(rx:RelV x v)(fy:i7 y=true)(fx:i7 x=true):SeqAt.EqAt A s u v (i8 y x):=by
 cases y with
 | non =>
  cases ry;cases x with
  | non=>cases rx;exact SeqAt.EqAt.same _
  | bl b=>cases rx;exact SeqAt.EqAt.none_bool b
  | int b=>obtain⟨t,rfl⟩:=rx;exact SeqAt.EqAt.none_int b t
  | str b=>obtain⟨t,rfl⟩:=rx;exact SeqAt.EqAt.none_str b t
  | _=>exact absurd (show false=true from fx) Yq
 | bl a =>
  cases ry;cases x with
  | non=>cases rx;exact SeqAt.EqAt.bool_none a
  | bl b=>cases rx;exact SeqAt.EqAt.bool_bool a b
  | int b=>obtain⟨t,rfl⟩:=rx;exact SeqAt.EqAt.bool_int a b t
  | str b=>obtain⟨t,rfl⟩:=rx;exact SeqAt.EqAt.bool_str a b t
  | _=>exact absurd (show false=true from fx) Yq
 | int a =>
  obtain⟨t',rfl⟩:=ry;cases x with
  | non=>cases rx;exact SeqAt.EqAt.int_none a t'
  | bl b=>cases rx;exact SeqAt.EqAt.int_bool a t' b
  | int b=>obtain⟨t,rfl⟩:=rx;exact SeqAt.EqAt.int_int a t' b t
  | str b=>obtain⟨t,rfl⟩:=rx;exact SeqAt.EqAt.int_str a t' b t
  | _=>exact absurd (show false=true from fx) Yq
 | str a =>
  obtain⟨t',rfl⟩:=ry;cases x with
  | non=>cases rx;exact SeqAt.EqAt.str_none a t'
  | bl b=>cases rx;exact SeqAt.EqAt.str_bool a t' b
  | int b=>obtain⟨t,rfl⟩:=rx;exact SeqAt.EqAt.str_int a t' b t
  | str b=>obtain⟨t,rfl⟩:=rx;exact SeqAt.EqAt.str_str a t' b t
  | _=>exact absurd (show false=true from fx) Yq
 | _=>exact absurd (show false=true from fy) Yq
noncomputable def fv(x:V)(u:X7):Bool:=match u with
 | .none=>i8 .non x
 | .bool b=>i8 (.bl b) x
 | .int i _=>i8 (.int i) x
 | .str z _=>i8 (.str z) x
 | _=>false
theorem CU(r:RelV y u)(f:i7 y=true):fv x u=i8 y x:=by
 cases y with
 | non=>cases r;rfl
 | bl b=>cases r;rfl
 | int i=>obtain⟨t,rfl⟩:=r;rfl
 | str z=>obtain⟨t,rfl⟩:=r;rfl
 | _=>exact absurd (show false=true from f) Yq
theorem qh:∀ {xs:List V} {us:List X7},Vals xs us->xs.all i7=true->us.any (fv x)=xs.any λy=>i8 y x
 | _,_,.nil,_=>rfl
 | y::xs,u::us,.cons r t,f=>by rw[ad0,ZF] at f;rw[Zn,Zn,CU r f.1,qh t f.2]
theorem qi(rx:RelV x v)(fx:i7 x=true):∀ {xs:List V} {us:List X7},Vals xs us->xs.all i7=true->∀ u∈us,SeqAt.EqAt A s u v (fv x u)
 | _,_,.nil,_=>λu hu=>by cases hu
 | y::xs,u::us,.cons r t,f=>λu' hu=>by
  rw[ad0,ZF] at f;rcases Yi.mp hu with rfl|hu
  .rw[CU r f.1];exact Lw r rx f.1 fx
  .exact qi rx fx t f.2 u' hu
noncomputable def nX(x:V)(xs:List V):Bool:=xs.any λy=>i8 y x
def uk(K:XW)(neg:Bool):R2:=λx y H Q=>∃ p xs,y = .ref p/\(ai K H p xs∨ah K H p xs)/\i7 x=true/\xs.all i7=true/\Q (.bl (if neg then !nX x xs else nX x xs)) H
theorem wZ:a8 X (Zd .In) (uk X.K false):=by
 intro pins s σ H x y v u Q I rx ry h;obtain⟨p,xs,rfl,hq,fx,fs,q⟩:=h;cases ry;rcases hq with hq|hq
 .obtain⟨aq,r,pl,hz⟩:=I.list hq;refine SeqAt.in_listAt (fv x) pl.isList (λw hw=>qi rx fx r fs w (by simpa using hw)) ⟨.bl _,H,I,rfl,?_⟩;rw[show aq.toArray.any (fv x)=aq.any (fv x) by simp,qh r fs];exact q
 .obtain⟨aq,r,pl,hz⟩:=I.tuple hq;refine SeqAt.in_tupleAt (fv x) pl (λw hw=>qi rx fx r fs w (by simpa using hw)) ⟨.bl _,H,I,rfl,?_⟩;rw[show aq.toArray.any (fv x)=aq.any (fv x) by simp,qh r fs];exact q
theorem Lx:a8 X (Zd .NotIn) (uk X.K true):=by
 intro pins s σ H x y v u Q I rx ry h;obtain⟨p,xs,rfl,hq,fx,fs,q⟩:=h;cases ry;rcases hq with hq|hq
 .obtain⟨aq,r,pl,hz⟩:=I.list hq;refine SeqAt.notIn_listAt (fv x) pl.isList (λw hw=>qi rx fx r fs w (by simpa using hw)) ⟨.bl _,H,I,rfl,?_⟩;rw[show aq.toArray.any (fv x)=aq.any (fv x) by simp,qh r fs];exact q
 .obtain⟨aq,r,pl,hz⟩:=I.tuple hq;refine SeqAt.notIn_tupleAt (fv x) pl (λw hw=>qi rx fx r fs w (by simpa using hw)) ⟨.bl _,H,I,rfl,?_⟩;rw[show aq.toArray.any (fv x)=aq.any (fv x) by simp,qh r fs];exact q
def w5(K:XW)(T:String)(x:V)(H:Hp):Prop:=match x with
 | .str _=>T = "str"
 | .int _=>T = "int"
 | .ref p=>(T = "list" /\ ∃ xs,ai K H p xs)∨(T = "tuple" /\ ∃ o,K.lookup p=some o/\o.cls = .type "tuple" /\ o.dict=none) ∨
  (T = "dict" /\ ((∃ kvs,H p=some (.dK kvs)) ∨ ∃ kvs,H p=some (.dT kvs)))∨(T = "set" /\ ∃ S n,H p=some (.set S n))
 | _=>False
theorem Ly(I:Inv X pins σ H s)(r:RelV x v)(ty:w5 X.K T x H) :
 s.TypeIs v T/\∀ a,v = .ref a->∃ ob,s.heap.get? a=some ob/\ob.dict=none:=by
 cases x with
 | str z =>
  obtain⟨t,rfl⟩:=r;cases (show T = "str" from ty);exact⟨typeIs_str s z t,λ_ e=>nomatch e⟩
 | int i =>
  obtain⟨t,rfl⟩:=r;cases (show T = "int" from ty);exact⟨afq s i t,λ_ e=>nomatch e⟩
 | ref p =>
  cases r;rcases ty with ⟨rfl,xs,hq⟩|⟨rfl,o,hk,hc,hd⟩|⟨rfl,hk⟩|⟨rfl,S,n,hk⟩
  .obtain⟨aq,_,pl,_⟩:=I.list hq;refine⟨pl.isList.typeIs,λa e=>?_⟩;cases e;obtain⟨o,n,e,c,hd,_⟩:=pl;exact⟨o,e,hd⟩
  .refine⟨⟨o,I.b6 p o hk,hc⟩,λa e=>?_⟩;cases e;exact⟨o,I.b6 _ o hk,hd⟩
  .have z:∃ o,s.heap.get? p=some o/\o.ExactDict:=by
    rcases hk with ⟨kvs,hk⟩|⟨kvs,hk⟩
    .obtain⟨_,_,_,_,o,_,_,e,ex,_⟩:=I.az p _ hk;exact⟨o,e,ex⟩
    .obtain⟨_,_,_,_,o,_,_,e,ex,_⟩:=I.az p _ hk;exact⟨o,e,ex⟩
   obtain⟨o,e,ex⟩:=z;refine⟨⟨o,e,ex.1⟩,λa e2=>?_⟩;cases e2;exact⟨o,e,ex.2.1⟩
  .obtain⟨o,_,_,_,e,ex,_⟩:=I.az p _ hk;refine⟨⟨o,e,ex.1⟩,λa e2=>?_⟩;cases e2;exact⟨o,e,ex.2.1⟩
 | _=>exact aac ty
def Lz(K:XW)(T:String)(r:V->List V->Hp->VK->Prop)(to:TE):TE:=λσ H Q=>to σ H λx H1=>w5 K T x H1/\r x [] H1 Q
def CV(K:XW)(T:String)(r:V->List V->Hp->VK->Prop)(to:TE)(t:TA):TE:=λσ H Q=>to σ H λx H1=>w5 K T x H1/\t σ H1 λxs H2=>r x xs H2 Q
variable{o e:abD}{es:List abD}{to:TE}{t:TA}{name:Str}{apos da:Pos}{T id:String}{r:V->List V->Hp->VK->Prop}
theorem i9(pa:PlainAttrs T)(slot:Slot T name id)(LA:typeOf (.builtin id)=pure (.type "method_descriptor"))(hm:CN X id r)(ho:PE X o to)(ha:PA X (e::es) t)(LB:abe o name X.env (eval o X.env)=eval o X.env:=by rfl)(LC:((ZZ da (Yv (e::es) X.env)).all (λx=>!x.1) && (adt da (abp [] X.env)).all (λx=>x.1.isSome)
 && decide ((e::es).length+([]:List aeX).length+(if ([]:List aeX).isEmpty then 0 else 1)<30))=true:=by rfl) (LD:(apos.endLine == da.line)=true:=by rfl) (hs:Yv (e::es) X.env=(false,eval e X.env)::Yv es X.env:=by rfl) (LF:(ZZ da (Yv es X.env)).any (·.1)=false:=by rfl) :
 PE X (.Call (.Attribute o name apos) (e::es) [] da) (CV X.K T r to t):=by
 intro pins s σ H Q I h;refine wpAny_Call_method_late LB LC LD rfl (aB (ho pins s σ H _ I h) λv s1 zq=>?_);obtain⟨x,H1,I1,r1,ty,q1⟩:=zq;obtain⟨h1,h2⟩:=Ly I1 r1 ty;refine⟨T,id,pa,slot,LA,h1,h2,?_⟩;have hA:=ha da pins s1 σ H1 _ I1 q1;rw[hs] at hA ⊢;refine Calls.callWith_builtin (by show (false || (ZZ da (Yv es X.env)).any (·.1))=false;rw[LF]<;>rfl) (adw ?_);exact aB hA λus s2 ⟨vs,H2,I2,r2,q2⟩=>hm pins s2 σ H2 x vs v us Q I2 r1 r2 q2
end
def CW(X:Cx)(id:String)(r:V->List V->Hp->VK->Prop):Prop :=
 ∀ (pins:List (Ye × Obj)) (s:Yd) (σ:St) (H:Hp) (x:V) (xs:List V) (v:X7) (us:List X7) (Q:VK),Inv X pins σ H s->RelV x v->Vals xs us->r x xs H Q ->
  Yr (model X.prog X.w) X.A (call (.builtin id) (v::us)) (EP X pins σ Q) X.xe s
theorem Vals.one:∀ {x:V} {us:List X7},Vals [x] us->∃ u,us=[u]/\RelV x u
 | _,_,.cons r .nil=>⟨_,rfl,r⟩
theorem Vals.reverse(h:Vals xs us):Vals xs.reverse us.reverse:=by
 induction h with
 | nil=>exact .nil
 | cons r t ih=>rw[abq,abq];exact Vals.append ih (.cons r .nil)
section
theorem Inv.CY{aq its':List X7}{n:Nat}{f:Array X7->Array X7}{t':Nat}(I:Inv X pins σ H s)(hH:H l=some (.lst xs))
 (e:s.heap.get? l=some { cls:=.type "list",data:=.seq aq.toArray n }) (hf:f aq.toArray=its'.toArray) (hv:Vals ys its') (hz:ys.length<=Yt) :
 Inv X pins σ (upd H l (.lst ys)) { s with heap:=s.heap.update l (Zm f),toks:=t' }:=by
 have q:=PySem.IsL.update e f;rw[hf] at q;refine I.write (x:=l) (e:=l) (by rw[hH];exact trivial) (.inl rfl) (λb' u hb hu=>(Yl s.heap (Zm f) (Y1 hb)).trans hu) ⟨_,q⟩ ?_;exact⟨hz,its',_,hv,q⟩
theorem Inv.LG(I:Inv X pins σ H s)(hv:Vals ys aq)(hz:ys.length<=Yt) :
 Inv X pins σ (upd H s.heap.objs.size (.lst ys)) { s with heap:=s.heap.push { cls:=.type "list",data:=.seq aq.toArray },toks:=t' } :=
 I.laid (λ_ _ q=>X2 _ q) (X9 _) ⟨hz,aq,0,hv,Ya _ rfl⟩
theorem Inv.fresh(I:Inv X pins σ H s):H s.heap.objs.size=none:=I.az.fresh (X9 _)
theorem Inv.qj(I:Inv X pins σ H s)(hH:H l=some (.lst xs)):xs.length<=Yt/\∃ (aq:List X7) (n:Nat),Vals xs aq/\xs.length=aq.length/\s.heap.get? l=some { cls:=.type "list",data:=.seq aq.toArray n }:=by obtain⟨z,aq,n,r,e⟩:=I.az l _ hH;exact⟨z,aq,n,r,r.length,e⟩
theorem LH(h:n<=Yt):aa9 n=false:=by unfold aa9;exact decide_eq_false (by omega)
def CZ:V->List V->Hp->VK->Prop:=λx vs H Q=>∃ l xs y,x = .ref l/\vs=[y]/\H l=some (.lst xs)/\xs.length<Yt/\Q .non (upd H l (.lst (xs++[y])))
theorem qk:CW X "list.append" CZ:=by intro pins s σ H x vs v us Q I rx rv h;obtain⟨l,xs,y,rfl,rfl,hH,hz,q⟩:=h;cases rx;obtain⟨u,rfl,ru⟩:=rv.one;obtain⟨z,aq,n,r,hl,e⟩:=I.qj hH;refine aep ad1 ⟨_,e,rfl⟩ adL (adx _ _) (aeq l aq.toArray n u (by rw[Yg];omega)) ⟨e,?_⟩;refine⟨.non,_,I.CY (its':=aq++[u]) hH e (by simp) (r.append (.cons ru .nil)) ?_,rfl,q⟩;rw[Yh,Yx];omega
def LI:V->List V->Hp->VK->Prop:=λx vs H Q=>∃ l b xs zs,x = .ref l/\vs=[.ref b]/\H l=some (.lst xs)/\H b=some (.lst zs)/\xs.length+zs.length<=Yt/\Q .non (upd H l (.lst (xs++zs)))
theorem w6:CW X "list.extend" LI:=by
 intro pins s σ H x vs v us Q I rx rv h;obtain⟨l,b,xs,zs,rfl,rfl,hH,hB,hz,q⟩:=h;cases rx;obtain⟨u,rfl,ru⟩:=rv.one;cases ru;obtain⟨z,aq,n,r,hl,e⟩:=I.qj hH;obtain⟨z2,mz,n2,r2,aU,e2⟩:=I.qj hB;have hsz:aq.toArray.size+mz.toArray.size<=Yt:=by rw[Yg,Yg];omega
 have LJ:¬ (!aq.toArray.isEmpty && aa9 (aq.toArray.size+mz.toArray.size))=true:=by rw[LH hsz,adE];exact Yq
 refine aep F.slot_list_extend ⟨_,e,rfl⟩ F.entry_list_extend (F.args_list_extend_2 _ _)
  (AutoSeq1.list_extend_list_list_0 l aq.toArray n b mz.toArray n2 LJ (by rw[Yg];omega) (by omega)) ⟨e,e2,?_⟩
 refine⟨.non,_,I.CY (its':=aq++mz) hH e (by simp) (r.append r2) ?_,rfl,q⟩;rw[Yh];omega
def LK:V->List V->Hp->VK->Prop:=λx vs H Q=>∃ l xs,x = .ref l/\vs=[]/\H l=some (.lst xs)/\Q .non (upd H l (.lst xs.reverse))
def C0:R2:=λx y H Q=>∃ l b xs zs,x = .ref l/\y = .ref b/\H l=some (.lst xs)/\H b=some (.lst zs)/\xs.length+zs.length<=Yt/\∀ p,H p=none->Q (.ref p) (upd H p (.lst (xs++zs)))
theorem ja:a8 X (aaY .Add) C0:=by
 intro pins s σ H x y v u Q I rx ry h;obtain⟨l,b,xs,zs,rfl,rfl,hH,hB,hz,q⟩:=h;cases rx;cases ry;obtain⟨z,aq,n,r,hl,e⟩:=I.qj hH;obtain⟨z2,mz,n2,r2,aU,e2⟩:=I.qj hB;refine PySem.P.add_list e e2 ?_ (by rw[Yg,Yg];omega);have ea:aq.toArray++mz.toArray=(aq++mz).toArray:=by simp
 rw[ea];exact⟨.ref _,_,I.LG (t':=s.toks) (r.append r2) (by rw[Yh];omega),rfl,q _ I.fresh⟩
end
section
set_option maxRecDepth 100000 in
end
section
end
end L2
namespace w9
open PySem PySem.W PySem.Calls PyProof.Rows
theorem LL:∀ (ns:List Int) (vs:List X7),WellAll P h vs (ns.map WData.int)->acF vs ns:=by
 intro ns
 induction ns with
 | nil =>
  intro vs w;rw[ab7] at w;cases w;exact .nil
 | cons n ns ih =>
  intro vs w;rw[Ys] at w;cases w with
  | cons a b =>
   cases a;exact .cons _ _ (ih _ b)
theorem LM{l:OpenLaw}{n:Nat}(hn:l.most=some n){P:Params}{h:aax}{args:List WData}{vals:List X7}
 (C1:l.row.toRowW.claim.pre args=true) (LN:WellAll P h vals args) :
 ∃ a vs ns,vals=[YC a]/\args=[WData.list (ns.map WData.int)]/\h.get? a=some { cls:=.type "list",data:=.seq vs.toArray }/\acF vs ns/\ns.length<=n:=by
 have LO:WShape.hasAll [] args [.list .int]=true:=(pre_splitW C1).1;have hc:l.pre.holds [] { args:=args }=true:=(pre_splitW C1).2;obtain⟨d,r,rfl,h1,h2⟩:=hasAllW_cons LO;obtain rfl:=hasAllW_nil h2;obtain⟨xs,rfl,h3⟩:=hasW_list h1;obtain⟨ns,rfl⟩:=items_int h3;have hlen:ns.length<=n:=by
  unfold OpenLaw.pre at hc;have h4:(WTm.not (.lt (.lit (.int (n:Int))) (.len (.arg 0)))).holds [] { args:=[.list (ns.map .int)] }=true:=by have h4:=(holds_andW hc).1;rw[hn] at h4;exact h4
  have h5:=condW_of h4 (w_not (w_lt w_lit (w_len_list (w_arg rfl))));rw[XY] at h5;refine Nat.le_of_not_lt λq=>?_;have q':(n:Int)<((ns.length:Nat):Int):=by omega
  first
   | (rw[decide_eq_true q'] at h5;exact absurd h5 (by decide))
   | (simp at h5;omega)
 cases LN with
 | cons w1 w2 =>
  cases w2;cases w1 with
  | list ho hall=>exact⟨_,_,ns,rfl,rfl,ho,LL ns _ hall,hlen⟩
theorem LP(l:OpenLaw)(args:List WData):l.row.toRowW.claim.post args (.bool true) args=true :=
 postW_of (r:=l.row.toRowW) (X:=(true == true))
  (show WShape.has [] (.bool true) .bool=true by first|rfl|decide|simp[WShape.has,WShape.arms,WShape.armsAll])
  (show (WTm.eq .res (.lit (.bool true))).value [] { args:=args,res:=some (.bool true),after:=args }=some (.bool (true == true)) from w_eq_bool (w_res rfl) w_lit) rfl
section
end
end w9
namespace L2
open PySem PySem.Spec PyProof.Rows
theorem xa:∀ {vs:List X7} {ns:List Int},acF vs ns->Vals (ns.map V.int) vs
 | _,_,.nil=>.nil
 | _,_,.cons n t h=>.cons ⟨t,rfl⟩ (xa h)
def C2(H:Hp):Prop:=∀ b,H b=none ∨ ∃ o xs,H b=some (.aO o (.lst xs))
theorem LQ{P:Y0}{w:Zw}{K:XW}{mg mb:Str->Option X7}{CX:fX}{k:Nat}{fa a:Ye}{fd:aa0}{x:Str}{sp:Sp}{s₁:Yd}{vs:List X7}{ns:List Int}
 (KX:K.In s₁.heap) (f7:s₁.heap.Ns Yw mg) (hb:s₁.heap.Ns aef mb) (LR:∀ x:Str,x ≠ "__name__" -> mb x=YO x) (LS:s₁.heap.NoLimit) (hg:s₁.gens = #[])
 (ha:s₁.heap.get? a=some { cls:=.type "list",data:=.seq vs.toArray }) (hi:acF vs ns) (hl:ns.length<=Yt) (hr:bP k aeY)
 (F:∀ base:aax,K.In base->base.Ns Yw mg->dP P w K mg base CX k fa fd [x] sp) (LU:∀ (s:Yd) (u:X7),ael s fd ⟨[u],[]⟩ [(x,u)])
 (kU:∀ H:Hp,C2 H->ai K H a (ns.map V.int)->sp [.ref a] H (λv _=>v = .bl true) λ_ _ _=>False)
 (LV:∀ H e s',CX [] H s₁ (λ_ _ _=>False) e s'->False) :
 aaS (model P w) aeY (.call (.ref fa) ⟨[.ref a],[]⟩) (λr s'=>r = .ok (.ret (.bool true))/\OldK s₁.heap s'.heap/\s'.os=s₁.os/\ac9 s'.gens) s₁:=by
 have rv:=xa hi;have LW:=hi.length;have core:∀ H:Hp,C2 H->ai K H a (ns.map V.int)->bU P w H s₁.heap->(∀ b,H b≠none->b=a)->(H a≠none->K.lookup a=none) ->
  aaS (model P w) aeY (.call (.ref fa) ⟨[.ref a],[]⟩) (λr s'=>r = .ok (.ret (.bool true))/\OldK s₁.heap s'.heap/\s'.os=s₁.os/\ac9 s'.gens) s₁:=by
  intro H hO hS az hA hK;have C3:∀ {b:Ye} {o:Obj},s₁.heap.get? b=some o->H b=none->(jJ s₁.heap H).get? b=some o:=λe n=>Ki e n;have fZ:∀ {b:Ye} {o:Obj} {es:Array abP} {ep:Nat},s₁.heap.get? b=some o->o.data = .dict es ep->H b=none:=λ{b o es ep} e d=>by
   cases q:H b with
   | none=>rfl
   | some u =>
    have e':b=a:=hA b (by rw[q];simp);subst e';rw[ha] at e;cases e;have d':Data.seq vs.toArray _=Data.dict es ep:=d;cases d'
  have um:∀ {b:Ye} {m:Str->Option X7},s₁.heap.Ns b m->(jJ s₁.heap H).Ns b m:=λ{b m} ⟨o,es,ep,e,d,r⟩=>⟨o,es,ep,C3 e (fZ e d),d,r⟩
  have C4:K.In (jJ s₁.heap H):=λb o e=>C3 (KX b o e) (by
   cases q:H b with
   | none=>rfl
   | some u =>
    have e':b=a:=hA b (by rw[q];simp);subst e';rw[hK (by rw[q];simp)] at e;cases e)
  have hM:Mod K mg (jJ s₁.heap H):=⟨C4,um f7,⟨mb,um hb,LR⟩,let ⟨mc,h1,h2⟩:=LS;⟨mc,um h1,h2⟩⟩
  have e0:mw P w K mg (jJ s₁.heap H) aeY [] s₁ H:=⟨rfl,hM,λb o e=>Kj e,afM (Kh _ _),trivial,λb hb=>absurd (show b∈([]:List Ye) from hb) (by simp),az,.of_eq hg⟩
  refine aby ((F _ C4 (um f7)).run aeY [] s₁ H ⟨[.ref a],[]⟩ [.ref a] [.ref a] _ _ hr e0 (LU s₁ (.ref a)) (.cons rfl .nil) (kU H hO hS)) λr s' h=>?_;cases r with
  | error e=>exact (LV H e s' h).elim
  | ok fl =>
   cases fl with
   | next=>exact aac h
   | brk=>exact aac h
   | cont=>exact aac h
   | ret u =>
    obtain⟨v,H',os,bare,un,LX,r',q⟩:=h;have q':v = .bl true:=q;subst q';obtain rfl:u=ZE true:=r';refine⟨rfl,OldK.of_keep λb o e=>?_,os,bare⟩;cases q:H b with
    | none=>exact un.keep b o e q (by intro z;exact absurd (show b∈([]:List Ye) from z) (by simp)) (by simp)
    | some u =>
     rcases hO b with z|⟨ob,xs,z⟩
     .rw[q] at z;cases z
     .have z2:=un.fk b ob _ z;obtain⟨e1,_⟩:=az b _ z;obtain⟨e2,_⟩:=LX b _ z2;rw[e] at e1;cases e1;exact e2
 cases hk:K.lookup a with
 | some o =>
  have e:=KX a o hk;rw[ha] at e;cases e;refine core (λ_=>none) (λ_=>.inl rfl) (.inr ⟨_,vs.toArray,_,hk,rfl,rfl,rfl,by rw[Yg,LW];exact hl,by simpa using rv⟩) (λb u z=>by have z':(none:Option HO)=some u:=z;cases z') (λb z=>absurd rfl z) λz=>absurd rfl z
 | none =>
  refine core (λb=>if b=a then some (.aO { cls:=.type "list",data:=.seq vs.toArray } (.lst (ns.map V.int))) else none) (λb=>?_) (.inl (.inr ⟨{ cls:=.type "list",data:=.seq vs.toArray },if_pos rfl⟩)) (λb u z=>?_) (λb z=>?_) λ_=>hk
  .by_cases hb:b=a
   .exact .inr ⟨_,_,if_pos hb⟩
   .exact .inl (if_neg hb)
  .by_cases hb:b=a
   .have z':=(if_pos hb).symm.trans z;cases z';subst hb;exact⟨ha,by rw[XY];exact hl,vs,_,rv,ha⟩
   .have z':=(if_neg hb).symm.trans z;cases z'
  .by_cases hb:b=a
   .exact hb
   .exact absurd (if_neg hb) z
def inClass(s:ZO)(j:Nat):ZO:=match s with
 | .ClassDef _ _ _ body _ _ _ _ _ _ _=>body.getD j (.Pass ⟨0,0,0,0⟩)
 | _=>.Pass ⟨0,0,0,0⟩
noncomputable def nY(s:ZO):Arguments:=match s with
 | .FunctionDef _ a _ _ _ _ _ _ _ _=>a
 | _=>{ posonlyargs:=[],args:=[],vararg:=none,kwonlyargs:=[],kw_defaults:=[],kwarg:=none,defaults:=[] }
noncomputable def gI(s:ZO):List ZO:=match s with
 | .FunctionDef _ _ b _ _ _ _ _ _ _=>b
 | _=>[]
noncomputable def dm(s:ZO):acU:=match s with
 | .FunctionDef _ _ _ _ _ _ sc _ _ _=>sc
 | _=>{ kind:=.function,names:=[],isGenerator:=false,isCoroutine:=false }
abbrev E0:XK:=λ_ _ _=>False
structure mC(K:XW)(x qual:Str)(st:ZO)(f:Ye)(fd:aa0):Prop where
 ex:∃ (oc:X7) (od:Option Ye) (kV doc pm:X7) (an:Option Ye) (aV ct:X7) (i5:Array (Option X7)),
  fd=aaI x qual (nY st) (gI st) (dm st) .none kV doc pm an aV ct/\K.lookup f=some ⟨oc,od,.func fd,i5⟩/\acd K aV qual=true
 kp:Zx K (.ref f)=true
section
variable{P:Y0}{w:Zw}{K:XW}{mg:Str->Option X7}{base:aax}
theorem mC.binds{x qual:Str}{st:ZO}{f:Ye}{fd:aa0}{ps:List Str}(F:mC K x qual st f fd)
 (h:∀ (kV doc pm:X7) (an:Option Ye) (aV ct:X7) (us:List X7),us.length=ps.length->bindArgs (aaI x qual (nY st) (gI st) (dm st) .none kV doc pm an aV ct) ⟨us,[]⟩=pure (ps.zip us)):Binds K fd ps []:=by
 obtain⟨oc,od,kV,doc,pm,an,aV,ct,i5,rfl,lk,fq⟩:=F.ex;exact .all (h kV doc pm an aV ct)
theorem nZ{x qual:Str}{st:ZO}{f:Ye}{oc:X7}{od an:Option Ye}{i5:Array (Option X7)}{kV doc pm aV ct:X7}(l:K.lookup f=some ⟨oc,od,.func (aaI x qual (nY st) (gI st) (dm st) .none kV doc pm an aV ct),i5⟩)
 (c:acd K aV qual=true) (k:Zx K (.ref f)=true):mC K x qual st f (aaI x qual (nY st) (gI st) (dm st) .none kV doc pm an aV ct):=⟨⟨oc,od,kV,doc,pm,an,aV,ct,i5,rfl,l,c⟩,k⟩
end
theorem gb(hr:bP k A):A.units+1<adh:=Ze (Nat.add_le_add_left (by decide:1<=64) _) hr.units
section
theorem pv(i:Nat)(hN:X.N[i]?=some x:=by rfl)(hv:tT X.env.scope x:=by first|exact abz rfl|exact aeE (abz rfl)|exact aeE (aeE rfl))(hd:(x == ("__debug__" : Str))=false:=by decide)(fq:(x == ("__classdict__" : Str))=false:=by decide):PE X (.Name x pos) (wB i):=Kq hN hv hd fq
end
def aj(H H':Hp):Prop:=∀ b o,H b=some o->H' b=some o
theorem aj.refl(H:Hp):aj H H:=λ_ _ h=>h
theorem aj.trans(a:aj H H1)(b:aj H1 H2):aj H H2:=λc o h=>b c o (a c o h)
theorem aj.free(e:aj H H')(h:H' l=Option.none):H l=Option.none:=by
 cases q:H l with
 | none=>rfl
 | some o =>
  rw[e l o q] at h;cases h
theorem aj.seq{K:XW}{H H':Hp}{a:Ye}{xs:List V}(e:aj H H')(h:ai K H a xs):ai K H' a xs:=by
 rcases h with (h|⟨o,h⟩)|h
 .exact .inl (.inl (e _ _ h))
 .exact .inl (.inr ⟨o,e _ _ h⟩)
 .exact .inr h
end L2
namespace Gz
open PySem PySem.Spec PyProof.Rows L2
def Bd(n:Nat)(x:Int):Prop:=x.natAbs<2 ^ n
theorem Bd.up(h:Bd n x)(hm:n<=m):Bd m x:=Yp h (abJ (by decide) hm)
theorem Bd.bits(h:Bd n x):aau x<=n:=by
 unfold aau;by_cases e:x=0
 .subst e;simp
 .have e0:¬ ((x == 0)=true):=by simpa using e
  rw[if_neg e0];have hn:x.natAbs≠0:=by lia
  have:=(Nat.log2_lt hn).mpr h;lia
def ql(i j:Int):Prop:=Bd 4000 i/\Bd 4000 j
theorem ql.ok(h:ql i j):IntMulOk i j :=
 IntMulOk.of_bits (X5 h.1.bits (by decide)) (X5 h.2.bits (by decide))
section
theorem LY:a8 X (aaY .Mult) (rI ql λi j=>.int (i * j)):=t9 λ_ _ _ _ _ _ _ hc q=>mul_int q hc.ok
noncomputable def qm:V->X7
 | .ref a=>.ref a
 | .ty n=>.type n
 | _=>.none
theorem LZ:fu X (.builtin "isinstance") (λxs H Q=>∃ x c t b,xs=[x,c]/\c9 X.K H x t/\qm c ≠ .none/\Zy X.K t (qm c)=some b/\Q (.bl b) H):=by
 intro pins s σ H xs us Q I r h;obtain⟨x,c,t,b,rfl,ty,hc,e,q⟩:=h;obtain⟨u,v,rfl,rx,rc⟩:=vals2 r;have ev:v=qm c:=by
  cases c with
  | ref a=>exact rc
  | ty n=>exact rc
  | non=>exact absurd rfl hc
  | bl _=>exact absurd rfl hc
  | int _=>exact absurd rfl hc
  | str _=>exact absurd rfl hc
  | byt _=>exact absurd rfl hc
  | flt _=>exact absurd rfl hc
 subst ev;exact La I rx ty e λtk=>⟨.bl b,H,I.tok tk,rfl,q⟩
end
theorem uo{K:XW}{t:X7}:Zy K t t=some true:=by unfold Zy;rw[if_pos (by simp)]
theorem uq{K:XW}{a c:String}{b:Bool}(h:aeZ c=true)(h2:(PySem.fastBuiltinMro a).map (·.contains (.type c))=some b)(h3:(a == c)=false):Zy K (.type a) (.type c)=some b:=by
 unfold Zy;have e:¬ ((acm a == acm c)=true):=by simp only[beq_iff_eq,Value.type.injEq];simpa using h3
 rw[if_neg e];show (if aeZ c=true then PySem.W.subIn K (.type a) (.type c) else none)=some b;rw[if_pos h];exact h2
theorem L3{K:XW}:Zy K (.type "int") (.type "bool")=some false:=uq (by decide +kernel) (by decide +kernel) (by decide)
theorem L6{K:XW}:Zy K (.type "bool") (.type "int")=some true:=uq (by decide +kernel) (by decide +kernel) (by decide)
theorem L8{K:XW}:Zy K (.type "NoneType") (.type "int")=some false:=uq (by decide +kernel) (by decide +kernel) (by decide)
theorem L9{K:XW}:Zy K (.type "NoneType") (.type "tuple")=some false:=uq (by decide +kernel) (by decide +kernel) (by decide)
theorem cR:YO "len" = some (.builtin "len"):=by decide +kernel
theorem jV:YO "min" = some (.builtin "min"):=by decide +kernel
theorem ur:YO "max" = some (.builtin "max"):=by decide +kernel
theorem kW:YO "isinstance" = some (.builtin "isinstance"):=by decide +kernel
theorem C5:YO "sorted" = some (.builtin "sorted"):=by decide +kernel
theorem xb:YO "any" = some (.builtin "any"):=by decide +kernel
theorem Ma:YO "all" = some (.builtin "all"):=by decide +kernel
theorem C6:YO "sum" = some (.builtin "sum"):=by decide +kernel
theorem Mb:YO "int" = some (.type "int"):=by decide +kernel
theorem Mc:YO "bool" = some (.type "bool"):=by decide +kernel
theorem xf:YO "list" = some (.type "list"):=by decide +kernel
theorem uu:YO "tuple" = some (.type "tuple"):=by decide +kernel
theorem C7:YO "enumerate" = some (.type "enumerate"):=by decide +kernel
theorem Md:YO "zip" = some (.type "zip"):=by decide +kernel
theorem Me:YO "reversed" = some (.type "reversed"):=by decide +kernel
noncomputable def xg:V->V->Option Bool
 | .int _,.ty n=>if n = "int" then some true else if n = "bool" then some false else none
 | .bl _,.ty n=>if n = "int" then some true else if n = "bool" then some true else none
 | .non,.ty n=>if n = "int" then some false else if n = "tuple" then some false else none
 | _,_=>none
def iq(K:XW)(x c:V)(H:Hp)(Q:VK):Prop:=match xg x c with
 | some b=>Q (.bl b) H
 | none=>∃ t b,c9 K H x t/\qm c ≠ .none/\Zy K t (qm c)=some b/\Q (.bl b) H
section
theorem kX:fu X (.builtin "isinstance") (λxs H Q=>∃ x c,xs=[x,c]/\iq X.K x c H Q):=by
 intro pins s σ H xs us Q I r h;obtain⟨x,c,rfl,h⟩:=h;refine LZ pins s σ H _ us Q I r ?_;cases e:xg x c with
 | none =>
  unfold iq at h;rw[e] at h;obtain⟨t,b,h1,h2,h3,h4⟩:=h;exact⟨x,c,t,b,rfl,h1,h2,h3,h4⟩
 | some b =>
  unfold iq at h;rw[e] at h;unfold xg at e;split at e
  .rename_i i n;split at e
   .rename_i z;subst z;cases e;exact⟨_,_,_,_,rfl,c9.int i,(λz=>nomatch z),uo,h⟩
   .split at e
    .rename_i z;subst z;cases e;exact⟨_,_,_,_,rfl,c9.int i,(λz=>nomatch z),L3,h⟩
    .cases e
  .rename_i i n;split at e
   .rename_i z;subst z;cases e;exact⟨_,_,_,_,rfl,c9.bl i,(λz=>nomatch z),L6,h⟩
   .split at e
    .rename_i z;subst z;cases e;exact⟨_,_,_,_,rfl,c9.bl i,(λz=>nomatch z),uo,h⟩
    .cases e
  .rename_i n;split at e
   .rename_i z;subst z;cases e;exact⟨_,_,_,_,rfl,c9.non,(λz=>nomatch z),L8,h⟩
   .split at e
    .rename_i z;subst z;cases e;exact⟨_,_,_,_,rfl,c9.non,(λz=>nomatch z),L9,h⟩
    .cases e
  .cases e
end
section
variable{K:XW}{H:Hp}{Q:VK}{i:Int}{b:Bool}{p:Ye}{xs:List V}
theorem Mf:iq K (.int i) (.ty "int") H Q=Q (.bl true) H:=rfl
theorem Mg:iq K (.int i) (.ty "bool") H Q=Q (.bl false) H:=rfl
theorem Mh:iq K (.bl b) (.ty "int") H Q=Q (.bl true) H:=rfl
theorem Mi:iq K (.bl b) (.ty "bool") H Q=Q (.bl true) H:=rfl
theorem Mj:iq K .non (.ty "int") H Q=Q (.bl false) H:=rfl
theorem Ml:iq K .non (.ty "tuple") H Q=Q (.bl false) H:=rfl
theorem uv(h:H p=some (.tup xs))(q:Q (.bl true) H):iq K (.ref p) (.ty "tuple") H Q:=⟨_,_,c9.tup h,(λz=>nomatch z),uo,q⟩
theorem C8(h:H p=some (.lst xs))(q:Q (.bl true) H):iq K (.ref p) (.ty "list") H Q:=⟨_,_,c9.lst h,(λz=>nomatch z),uo,q⟩
end
def dG(P:Y0)(w:Zw):fX:=λouter H s E e s' =>
 ∃ (x:Ye) (cls a0:X7) (H':Hp) (B:aax),e = .ref x/\s'.os=s.os/\ac9 s'.gens/\Un (aX outer) [] H H' s.heap s'.heap /\
  (∀ b o,s.heap.get? b=some o->H b=none->b∉aX outer->B.get? b=some o)/\(∀ b o,s.heap.get? b=some o->b∉aX outer->∃ o',B.get? b=some o')/\bU P w H' B/\H' x=none/\s.heap.get? x=none /\
  Heap.FlyingW B outer x cls a0 s'.heap/\E cls none H'
theorem bC:Passes (dG P w) X E0:=by rintro _ _ _ _ _ _ _ ⟨_,_,_,_,_,_,_,_,_,_,_,_,_,_,_,h⟩;exact h.elim
theorem Mm(h:dG P w outer H s (λ_ _ _=>False) e s'):False:=by obtain⟨_,_,_,_,_,_,_,_,_,_,_,_,_,_,_,h⟩:=h;exact h
section
variable{P:Y0}{w:Zw}{K:XW}{mg:Str->Option X7}{base:aax}
theorem okN{x qual:Str}{st:ZO}{f:Ye}{fd:aa0}{N ps:List Str}{k:Nat}{sp:Sp}(F:mC K x qual st f fd)(S:qf N ps (dm st))(len:∀ vs H Q E,sp vs H Q E->vs.length=ps.length)
 (f6:∀ (aV:X7) (A:ZP) (outer:List Env) (s:Yd) (H:Hp) (vs:List V) (Q:VK) (E:XK),bP k (A.deeper (ZR qual (dm st) s.heap.objs.size f aV))->sp vs H Q E ->
   ∃ t,aP (eO (dG P w) P w K mg base N qual (dm st) f aV A outer s H E).nP (gI st) t/\t { nx:=λ_ H'=>Q .non H',rt:=Q } (start N vs) H):dP P w K mg base (dG P w) (k+1) f fd ps sp:=by
 obtain⟨oc,od,kV,doc,pm,an,aV,ct,i5,rfl,lk,fq⟩:=F.ex;refine CG lk fq S len λA outer s H vs Q E hr kU=>?_;obtain⟨t,h,q⟩:=f6 aV A outer s H vs Q E hr kU;exact⟨t,h.nP,q⟩
end
theorem Mn(a b:Int):jR (.int a) (.int b)=true:=rfl
theorem Mo(a b:Bool):jR (.bl a) (.bl b)=true:=rfl
theorem Mp(a:Int):jR (.int a) .non=true:=rfl
theorem Mq(a:Int):jR .non (.int a)=true:=rfl
theorem Mr:jR .non .non=true:=rfl
theorem ite_tt:(if true=true then A else B)=A:=if_pos rfl
theorem ite_ff:(if false=true then A else B)=B:=if_neg Yq
theorem Ms{CX:fX}{P:Y0}{w:Zw}{K:XW}{mg:Str->Option X7}{base:aax}{N:List Str}{qual:Str}{scope:acU}{f:Ye}{cd:X7}{A:ZP}{outer:List Env}{s:Yd}{H:Hp}{E:XK} :
 (eO CX P w K mg base N qual scope f cd A outer s H E).K=K:=rfl
theorem Mt{CX:fX}{P:Y0}{w:Zw}{K:XW}{mg:Str->Option X7}{base:aax}{N:List Str}{qual:Str}{scope:acU}{f:Ye}{cd:X7}{A:ZP}{outer:List Env}{s:Yd}{H:Hp}{E:XK} :
 (eO CX P w K mg base N qual scope f cd A outer s H E).N=N:=rfl
section
variable{K:XW}{H H':Hp}{a p:Ye}{xs ys:List V}{i:Int}{v:V}{Q:VK}
theorem dQ(e:aj H H')(h:ah K H a xs):ah K H' a xs:=by
 rcases h with (h|⟨o,h⟩)|h
 .exact .inl (.inl (e _ _ h))
 .exact .inl (.inr ⟨o,e _ _ h⟩)
 .exact .inr h
theorem ao(h:H p=none):aj H (upd H p o):=λb u e=>by rw[aG (ie e h)];exact e
theorem ak(h:ah K H p xs)(e:cQ xs i=some v)(q:Q v H):jU K (.ref p) (.int i) H Q:=.inr (.inl ⟨p,xs,i,v,rfl,rfl,h,e,q⟩)
theorem bH(h:ai K H p xs)(e:cQ xs i=some v)(q:Q v H):jU K (.ref p) (.int i) H Q:=.inl ⟨p,xs,i,v,rfl,rfl,h,e,q⟩
theorem dR(h:ai K H p xs):uf K (.ref p) H xs.length:=.inl ⟨xs,h,rfl⟩
theorem n0(h:ah K H p xs):uf K (.ref p) H xs.length:=.inr ⟨xs,h,rfl⟩
end
noncomputable def isWhole:V->Bool
 | .int _=>true
 | _=>false
def FJ(J:It)(g:TG)(tb:TS)(D:Ends)(σ:L2.St)(H:Hp):Prop:=∃ W:Nat->Nat->L2.St->Hp->Prop,(∃ m,W 0 m σ H)/\∀ i m σ H,W i m σ H ->
 (J.stop i H/\D.nx σ H)∨(J.go i H/\∃ N:L2.St->Hp->Prop,(∀ σ' H',N σ' H'->∃ m',m'<m/\W (i+1) m' σ' H')/\∀ x H',J.yld i H x H'->g x σ H' λσ2 H2=>tb { D with nx:=N,ct:=N,bk:=D.nx } σ2 H2)
section
variable{K:XW}{g:TG}{tb:TS}{D:Ends}{σ:L2.St}{H:Hp}{a:Ye}{xs:List V}{lo:Int}{n:Nat}
theorem Mu:i3 (wH ta) g tb D σ H=ta σ H (λvs H1=>∃ j:Int,vs=[.int j]/\-(2 ^ 62)<=j/\j<2 ^ 62/\FJ (gF 0 j.toNat) g tb D σ H1):=rfl
theorem Mv{tl:TE}:i3 (t5 K tl) g tb D σ H=tl σ H (λx H1=>∃ a,x = .ref a/\(∃ xs,ai K H1 a xs)/\FJ (i0 K a) g tb D σ H1):=rfl
theorem Mw{tl:TE}:i3 (wG K tl) g tb D σ H=tl σ H (λx H1=>∃ a,x = .ref a/\(∃ xs,ah K H1 a xs)/\FJ (jQ K a) g tb D σ H1):=rfl
theorem kY(Pv:Nat->L2.St->Hp->Prop)(h0:Pv 0 σ H)(hs:∀ i σ H,i<n->Pv i σ H->g (.int (lo+i)) σ H λσ2 H2=>tb { D with nx:=Pv (i+1),ct:=Pv (i+1),bk:=D.nx } σ2 H2)(hd:∀ σ H,Pv n σ H->D.nx σ H):FJ (gF lo n) g tb D σ H:=KG Pv h0 hs hd
theorem kZ(Pv:Nat->L2.St->Hp->Prop)(h0:Pv 0 σ H)(hl:∀ i σ H,i<=xs.length->Pv i σ H->ai K H a xs)(hs:∀ i x σ H,xs[i]?=some x->Pv i σ H->g x σ H λσ2 H2=>tb { D with nx:=Pv (i+1),ct:=Pv (i+1),bk:=D.nx } σ2 H2)(hd:∀ σ H,Pv xs.length σ H->D.nx σ H):FJ (i0 K a) g tb D σ H:=KC Pv h0 hl hs hd
theorem Mx(Pv:Nat->L2.St->Hp->Prop)(h0:Pv 0 σ H)(hl:∀ i σ H,i<=xs.length->Pv i σ H->ah K H a xs)(hs:∀ i x σ H,xs[i]?=some x->Pv i σ H->g x σ H λσ2 H2=>tb { D with nx:=Pv (i+1),ct:=Pv (i+1),bk:=D.nx } σ2 H2)(hd:∀ σ H,Pv xs.length σ H->D.nx σ H):FJ (jQ K a) g tb D σ H:=KD Pv h0 hl hs hd
end
theorem a9:(2:Nat)<=Yt:=by decide
section
end
section
variable{K:XW}{H H1:Hp}{l p:Ye}{xs ys:List V}{o:HO}
theorem jb(hl:H l=none)(s:aj H H1):aj H (upd H1 l o):=λb u e=>by rw[aG (ie e hl)];exact s b u e
theorem qo(h:ah K H1 p xs)(hl:H1 l=some (.lst ys)):ah K (upd H1 l o) p xs:=by
 rcases h with (h|⟨z,h⟩)|h
 .exact .inl (.inl (by rw[aG (nM h hl (λe=>nomatch e))];exact h))
 .exact .inl (.inr ⟨z,by rw[aG (nM h hl (λe=>nomatch e))];exact h⟩)
 .exact .inr h
end
end Gz
namespace Gz
open PySem PySem.W PySem.Spec PySem.Calls PyProof.Rows Builtin Builtin.ObjectAttr Builtin.Getset_descriptor
section
variable{prog:Y0}{w:Zw}{A:ZP}{E:X7->Yd->Prop}{s:Yd}{K:Frag}{x C:Ye}{oe:Obj}{R:adY->Yd->Prop}
end
structure XC(K:Frag)(C:Ye):Prop where
 ex:excIn K C [.type "ValueError",.type "Exception",.type "BaseException",.type "object"] "ValueError.__new__" = true
 mo:mroIn K C (.type "object")=some true
 mb:mroIn K C (.type "BaseException")=some true
 ga:findIn K (.ref C) "__getattribute__" = some (some (.builtin "BaseException.__getattribute__"))
 gr:findIn K (.ref C) "__getattr__" = some none
 gc:findIn K (.ref C) "__class__" = some (some (.builtin "object.__class__"))
theorem My{K:Frag}{h:aax}{C:Ye}(X:K.In h)(c:XC K C) :
 ∃ bm N nm q bs hdct sn sub ab col dd k0 k1 k2 k3 k5 mN,h.get? C=some (excClassObj nm q C N bs bm hdct sn sub ab col dd k0 k1 k2 k3 k5 "ValueError.__new__")/\h.Ns N mN/\mN "__init__" = none /\
  OwnTail h [.type "ValueError",.type "Exception",.type "BaseException",.type "object"] bm:=by
 have q:=c.ex;unfold excIn at q;split at q
 .rename_i dd cd sl ho;split at q
  .rename_i C' bm k0 k1 k2 k3 n k5 hm hs;simp only[ZF,beq_iff_eq,aer] at q;obtain⟨⟨⟨⟨⟨rfl,rfl⟩,hdel⟩,ht⟩,az⟩,hni⟩:=q;obtain⟨nm,bs,mro,ns,qn,hd,sn,sub,ab,col,del⟩:=cd;dsimp only at hm hdel az hni;subst hm hdel;have jc:sl = #[k0,k1,k2,k3,some (.builtin "ValueError.__new__"),k5]:=by obtain⟨l⟩:=sl;simp only at hs;rw[hs]
   subst jc;exact⟨bm,ns,nm,qn,bs,hd,sn,sub,ab,col,dd,k0,k1,k2,k3,k5,_,X _ _ ho,.of_isNs (isNs_of_in X az),nsMap_none_of_in X az hni,tail_of_in X ht⟩
  .cases q
 .cases q
open L2
section
end
end Gz
namespace Gz
open PySem PySem.Spec PyProof.Rows L2
theorem bK.some(x:bK P w H h a o):∃ ob,h.get? a=some ob:=by
 cases o with
 | lst xs=>obtain⟨_,_,_,_,e⟩:=x;exact⟨_,e⟩
 | tup xs=>obtain⟨_,_,_,o,e,_⟩:=x;exact⟨_,e⟩
 | dK kvs=>obtain⟨_,_,_,_,o,_,_,e,_⟩:=x;exact⟨_,e⟩
 | dT kvs=>obtain⟨_,_,_,_,o,_,_,e,_⟩:=x;exact⟨_,e⟩
 | set S n=>obtain⟨o,_,_,_,e,_⟩:=x;exact⟨_,e⟩
 | ins C dx fs=>obtain⟨_,_,_,e,_⟩:=x;exact⟨_,e⟩
 | own y=>exact x
 | xd fs=>obtain⟨_,⟨_,_,_,e,_⟩,_⟩:=x;exact⟨_,e⟩
 | fj lo hi=>obtain⟨_,_,_,e⟩:=x;exact⟨_,e⟩
 | aO ob u=>obtain⟨e,_⟩:=x;exact⟨_,e⟩
 | tbl ps=>exact⟨_,x⟩
 | met f y=>exact⟨_,x⟩
 | ext φ=>exact x.2.1
def C9(X:Cx)(E:XK):Prop:=∀ (pins:List (Ye × Obj)) (σ:L2.St) (H:Hp) (s:Yd) (e C:Ye) (vs:List X7) (h':aax),Inv X pins σ H s->Heap.MadeExcOf s.heap h' e (.ref C) vs->E (.ref C) none H->X.xe (.ref e) { s with heap:=h' }
def uw(C:Ye)(E:XK)(ta:TA):TS:=λD σ H=>ta σ H λvs H1=>vs.length<=Yt/\E (.ref C) none H1
section
theorem jd{x:Str}{np da pos:Pos}{e₀:abD}{rest:List abD}{ta:TA}{C:Ye}{E:XK}(hx:C9 X E)(hg:Gl X x)(hm:X.mg x=some (.ref C))(xc:XC X.K C)(hc:X.calm=true)(ha:PA X (e₀::rest) ta)
 (hd:(x == ("__debug__" : Str))=false:=by decide) (he:Yv (e₀::rest) X.env=(false,eval e₀ X.env)::Yv rest X.env:=by rfl)
 (eN:(ZZ da (Yv rest X.env)).any (·.1)=false:=by rfl) :
 PS X (.Raise (some (.Call (.Name x np) (e₀::rest) [] da)) none pos) (uw C E ta):=by
 intro pins s σ H D I h;obtain⟨tl,N,nm,q,bs,hdct,sn,sub,ab,col,dd,k0,k1,k2,k3,k5,mN,hC,hN,hni,T⟩:=My I.ok.mod.kin xc;refine wpAny_Raise_call_subU (C:=C) (nm:=nm) (q:=q) (N:=N) (bs:=bs) (bm:=tl) (hdct:=hdct) (sn:=sn) (sub:=sub) (ab:=ab) (col:=col) (dd:=dd) (k0:=k0) (k1:=k1) (k2:=k2) (k3:=k3) (k5:=k5)
  ab5 (by decide +kernel) ab5 (mN:=mN) (T.hasType PySem.F.excBase_ValueError.hasBase) (I.ok.hd hc) (by rw[he];show (false || (ZZ da (Yv rest X.env)).any (·.1))=false;rw[eN];rfl) hni (tW I hg hm ⟨rfl,?_⟩ hd)
 have qp:=ha da pins s σ H _ I h;rw[he] at qp ⊢;refine adw (Zl qp (λus s₂ h₂=>?_) λ_ _ y=>y);obtain⟨vs,H1,I1,r,hl,hE⟩:=h₂;exact⟨rfl,by rw[<- r.length];exact hl,I1.bk _ _ hC,hN.keeps I1.bk,T.keeps I1.bk,λh' e hm=>hx pins σ H1 s₂ e C us h' I1 hm hE⟩
end
section
variable{P:Y0}{w:Zw}{K:XW}{mg:Str->Option X7}{base:aax}{N:List Str}{qual:Str}{scope:acU}{f:Ye}{cd:X7}{A:ZP}{outer:List Env}{s:Yd}{H:Hp}{E:XK}
theorem Dc(hf:env.frame=some L)(h:b∈aX (env::outer)):b=L∨b∈aX outer:=by unfold aX at h;rw[Zf,hf] at h;exact Yi.mp h
theorem je:C9 (eO (dG P w) P w K mg base N qual scope f cd A outer s H E) E:=by
 intro pins σ H1 s1 e C vs h1 I hx hE;have xh:(eO (dG P w) P w K mg base N qual scope f cd A outer s H E).A.frames=some (ZR qual scope s.heap.objs.size f cd::outer):=I.ok.frames;have hF:s1.heap.FunFrames base (ZR qual scope s.heap.objs.size f cd::outer):=I.stack;have bI:∀ env∈(ZR qual scope s.heap.objs.size f cd::outer),∀ b,env.frame=some b->b∈aX (ZR qual scope s.heap.objs.size f cd::outer):=λenv he b hb=>ZQ.mpr ⟨env,he,hb⟩;have Mz:∀ b∈aX (ZR qual scope s.heap.objs.size f cd::outer),H1 b=none:=I.pM;have nO:∀ b o,s.heap.get? b=some o->b≠s.heap.objs.size:=λb o e=>Yk (X4 e);have jK:∀ b o,s.heap.get? b=some o->b∉aX outer->b∉aX (ZR qual scope s.heap.objs.size f cd::outer):=λb o e hb z=>by
  rcases Dc rfl z with z|z
  .exact nO b o e z
  .exact hb z
 have ub:Un (aX outer) [] H H1 s.heap s1.heap:=I.base;refine wpAny_leaves_madeW (base:=ac8 s1.heap (aX (ZR qual scope s.heap.objs.size f cd::outer))) xh rfl (λb o q=>adS _ q) (PySem.W.funFrames_hide hF bI) hx λh' t fl tup bt up=>?_;have stays:=fl.1;have n4:∀ b o,s1.heap.get? b=some o->b∉aX (ZR qual scope s.heap.objs.size f cd::outer)->(ac8 s1.heap (aX (ZR qual scope s.heap.objs.size f cd::outer))).get? b=some o:=λb o q hb=>adI _ q hb;have qq:∀ b∈aX (ZR qual scope s.heap.objs.size f cd::outer),∀ o,s1.heap.get? b=some o->∃ sl,h'.get? b=some { o with slots:=sl }:=λb hb o q=>by obtain⟨_,o',cA,hnf⟩:=hF.mem hb;rw[q] at cA;cases cA;exact up b o (hx.keeps b o q) hnf
 refine⟨e,.ref C,.ref t,H1,_,rfl,I.os,I.bare,⟨λb o q n hb dS=>?_,λb o q n hb dS=>?_,ub.free,λb o q dS=>?_,ub.fU,ub.fk,ub.fV⟩,λb o q n hb=>?_,λb o q hb=>?_,λa o q=>?_,?_,?_,fl,hE⟩
 .exact stays b o (n4 b o (ub.keep b o q n hb dS) (jK b o q hb))
 .obtain⟨sl,e1⟩:=ub.slot b o q n hb dS;obtain⟨fo,e2⟩:=qq b (by unfold aX;rw[Zf];exact YU _ hb) _ e1;exact⟨fo,e2⟩
 .obtain⟨o',e1⟩:=ub.there b o q dS;by_cases hb:b∈aX (ZR qual scope s.heap.objs.size f cd::outer)
  .obtain⟨sl,e2⟩:=qq b hb o' e1;exact⟨_,e2⟩
  .exact⟨o',stays b o' (n4 b o' e1 hb)⟩
 .exact n4 b o (ub.keep b o q n hb (by simp)) (jK b o q hb)
 .obtain⟨o',e1⟩:=ub.there b o q (by simp);exact⟨o',n4 b o' e1 (jK b o q hb)⟩
 .refine (I.az a o q).cK (λb u hb z=>n4 b u z λhm=>?_) (λ_ z=>z) λ_ _ z=>z;have:=Mz b hm;rcases hb with hb|hb
  .rw[hb,q] at this;cases this
  .rw[hb] at this;cases this
 .cases q:H1 e with
  | none=>rfl
  | some u =>
   obtain⟨ob,z⟩:=bK.some (I.az e u q);rw[hx.new] at z;cases z
 .cases q:s.heap.get? e with
  | none=>rfl
  | some u =>
   obtain⟨o',z⟩:=ub.there e u q (by simp);rw[hx.new] at z;cases z
theorem dn:Passes (dG P w) (eO (dG P w) P w K mg base N qual scope f cd A outer s H E) E:=by
 intro pins σ H1 s1 ev s2 I cx;obtain⟨x,cls,a0,H',B,rfl,os,bare,un,kb,tb,az,hx,hn,fl,hE⟩:=cx;have xh:(eO (dG P w) P w K mg base N qual scope f cd A outer s H E).A.frames=some (ZR qual scope s.heap.objs.size f cd::outer):=I.ok.frames;have hF:s1.heap.FunFrames base (ZR qual scope s.heap.objs.size f cd::outer):=I.stack;have nO:∀ b o,s.heap.get? b=some o->b≠s.heap.objs.size:=λb o e=>Yk (X4 e);have jK:∀ b o,s.heap.get? b=some o->b∉aX outer->b∉aX (ZR qual scope s.heap.objs.size f cd::outer):=λb o e hb z=>by
  rcases Dc rfl z with z|z
  .exact nO b o e z
  .exact hb z
 have MA:∀ b,b∈aX outer->b∈aX (ZR qual scope s.heap.objs.size f cd::outer):=λb hb=>by unfold aX;rw[Zf];exact YU _ hb
 have ub:Un (aX outer) [] H H1 s.heap s1.heap:=I.base;have Dd:Un (aX (ZR qual scope s.heap.objs.size f cd::outer)) [] H1 H' s1.heap s2.heap:=un;have De:∀ b o,s1.heap.get? b=some o->H1 b=none->b∉aX (ZR qual scope s.heap.objs.size f cd::outer)->B.get? b=some o:=kb;have n5:∀ b o,s1.heap.get? b=some o->b∉aX (ZR qual scope s.heap.objs.size f cd::outer)->∃ o',B.get? b=some o':=tb;have MB:∀ b∈aX (ZR qual scope s.heap.objs.size f cd::outer),H1 b=none:=I.pM;refine wpAny_leaves_onW xh rfl fl λh' Df up=>?_;have stays:=Df.1;have qq:∀ b∈aX (ZR qual scope s.heap.objs.size f cd::outer),∀ o,s1.heap.get? b=some o->∃ sl,h'.get? b=some { o with slots:=sl }:=λb hb o q=>by obtain⟨_,o',cA,hnf⟩:=hF.mem hb;rw[q] at cA;cases cA;obtain⟨sl,e1⟩:=Dd.slot b o q (MB b hb) hb (by simp);obtain⟨fo,e2⟩:=up b _ e1 hnf;exact⟨fo,e2⟩
 refine⟨x,cls,a0,H',B,rfl,os.trans I.os,bare,⟨λb o q n hb dS=>?_,λb o q n hb dS=>?_,λb o q n dS=>?_,λb o q dS=>?_,λb xs q=>un.fU _ _ (ub.fU _ _ q),λb o u q=>un.fk _ _ _ (ub.fk _ _ _ q),λb ps q=>?_⟩,λb o q n hb=>?_,λb o q hb=>?_,az,hx,?_,Df,hE⟩
 .exact stays b o (De b o (ub.keep b o q n hb dS) (ub.free b o q n dS) (jK b o q hb))
 .obtain⟨sl,e1⟩:=ub.slot b o q n hb dS;obtain⟨fo,e2⟩:=qq b (MA b hb) _ e1;exact⟨fo,e2⟩
 .obtain⟨o',e1⟩:=ub.there b o q dS;exact Dd.free b o' e1 (ub.free b o q n dS) (by simp)
 .obtain⟨o',e1⟩:=ub.there b o q dS;by_cases hb:b∈aX (ZR qual scope s.heap.objs.size f cd::outer)
  .obtain⟨sl,e2⟩:=qq b hb o' e1;exact⟨_,e2⟩
  .obtain⟨o2,e2⟩:=n5 b o' e1 hb;exact⟨o2,stays b o2 e2⟩
 .obtain⟨m1,e1⟩:=ub.fV b ps q;obtain⟨m2,e2⟩:=un.fV b _ e1;exact⟨m1++m2,by rw[e2,adT]⟩
 .exact De b o (ub.keep b o q n hb (by simp)) (ub.free b o q n (by simp)) (jK b o q hb)
 .obtain⟨o',e1⟩:=ub.there b o q (by simp);exact n5 b o' e1 (jK b o q hb)
 .cases q:s.heap.get? x with
  | none=>rfl
  | some u =>
   obtain⟨o',z⟩:=ub.there x u q (by simp);rw[hn] at z;cases z
theorem Dg{x qual:Str}{st:ZO}{f:Ye}{fd:aa0}{N ps:List Str}{k:Nat}{sp:Sp}(F:mC K x qual st f fd)(S:qf N ps (dm st))(len:∀ vs H Q E,sp vs H Q E->vs.length=ps.length)
 (f6:∀ (aV:X7) (A:ZP) (outer:List Env) (s:Yd) (H:Hp) (vs:List V) (Q:VK) (E:XK),bP k (A.deeper (ZR qual (dm st) s.heap.objs.size f aV))->sp vs H Q E ->
   ∃ t,aP (eO (dG P w) P w K mg base N qual (dm st) f aV A outer s H E) (gI st) t/\t { nx:=λ_ H'=>Q .non H',rt:=Q } (start N vs) H):dP P w K mg base (dG P w) (k+1) f fd ps sp:=by
 obtain⟨oc,od,kV,doc,pm,an,aV,ct,i5,rfl,lk,fq⟩:=F.ex;refine CG lk fq S len λA outer s H vs Q E hr kU=>?_;exact f6 aV A outer s H vs Q E hr kU
end
section
end
local macro_rules | `(tactic| walk_at "o") => `(tactic| ((try simp only [PySem.Addr] at *); lia))
inductive jf(X:Cx)(scope:acU)(cl:List (Str × Ye)):List Nat->List Str->Prop where
 | nil:jf X scope cl [] []
 | cons {j:Nat} {y:Str} {c:Ye} {js:List Nat} {ys:List Str} (hN:X.N[j]?=some y) (hk:X.env.kindOf y=some .cell) (h1:cl.lookup y=some c) (h2:X.env.cells.lookup y=some c) (h:jf X scope cl js ys):jf X scope cl (j::js) (y::ys)
inductive k6(X:Cx):List (Str × Ye)->Prop where
 | nil:k6 X []
 | cons {n:Str} {a:Ye} {r:List (Str × Ye)} (h:X.env.cells.lookup n=some a) (t:k6 X r):k6 X ((n,a)::r)
theorem k6.get:∀ {cl:List (Str × Ye)},k6 X cl->∀ y c,cl.lookup y=some c->X.env.cells.lookup y=some c
 | _,.nil,y,c,e=>by simp at e
 | _,.cons (n:=n) h t,y,c,e=>by
  rw[ZG] at e;by_cases hy:(y == n)=true
  .rw[hy] at e;have e1:y=n:=by simpa using hy
   cases e;rw[e1];exact h
  .rw[aaO.mpr hy] at e;exact t.get y c e
theorem jf.get{X:Cx}{scope:acU}{cl:List (Str × Ye)}{σ:L2.St}:∀ {js:List Nat} {ys:List Str},jf X scope cl js ys->∀ (i:Nat) (y:Str) (v:V),ys[i]?=some y->(js.map λj=>(σ[j]?).join)[i]?=some (some v) ->
 ∃ (j:Nat) (c:Ye),X.N[j]?=some y/\σ[j]?=some (some v)/\X.env.kindOf y=some .cell/\cl.lookup y=some c/\X.env.cells.lookup y=some c
 | _,_,.nil,i,y,v,e,_=>by simp at e
 | _,_,.cons (j:=j) hN hk h1 h2 h,0,y,v,e,q=>by
  simp at e q;subst e;refine⟨j,_,hN,?_,hk,h1,h2⟩;cases z:σ[j]? with
  | none=>rw[z] at q;simp at q
  | some o=>rw[z] at q;simp at q;rw[q]
 | _,_,.cons hN hk h1 h2 h,i+1,y,v,e,q=>by simp only[aav,Ys] at e q;exact h.get i y v e q
theorem jf.len:∀ {js:List Nat} {ys:List Str},jf X scope cl js ys->js.length=ys.length
 | _,_,.nil=>rfl
 | _,_,.cons _ _ _ _ h=>by simp[h.len]
noncomputable def dq(X:Cx)(N':List Str)(scope:acU)(cl:List (Str × Ye))(C:Ye)(s2:Yd)(H2:Hp)(ex:List Ye)(pn:List (Ye × Obj)):Cx :=
 { X with N:=N',s₀:=s2,H₀:=H2,env:=aeN scope cl C X.env,outer:=X.stack,ex:=ex,fn:=λ_=>false,pn:=pn,xe:=λ_ _=>False }
structure bz(X:Cx)(x:Str)(scope:acU)(cl:List (Str × Ye))(fr:List Nat)(ys:List Str):Prop where
 clos:afr scope X.env=pure cl
 nocell:(scope.names.all λp=>p.2 != .cell)=true
 kind:scope.kind = .function
 names:(scope.names.all λp=>p.2 != .local || scope.names.lookup p.1 == some .local)=true
 own:scope.names.lookup x=some .local
 kinds:((relabel scope X.env).names.all λp=>(p.2 != .cell && p.2 != .free) || (cl.lookup p.1).isSome)=true
 cls:k6 X cl
 aX:jf X scope cl fr ys
 nd:(x::ys).Nodup
 kfr:(ys.all λy=>(relabel scope X.env).names.lookup y == some .cell)=true
def ir(X:Cx)(ifs:List abD)(t:TT):Prop :=
 ∀ (pins:List (Ye × Obj)) (s:Yd) (σ:L2.St) (H:Hp) (Q:Bool->Hp->Prop),Inv X pins σ H s->t σ H Q ->
  Yr (model X.prog X.w) X.A (forIn ifs true λc r=>if r=true then do let ok <- afJ c X.env (eval c X.env);pure (abQ ok) else pure (abQ r)) (TP X pins σ Q) X.xe s
def xi:TT:=λ_ H Q=>Q true H
theorem cD:ir X [] xi:=λ_ _ _ H _ I h=>wpAny_tests_nil ⟨H,I,h⟩
theorem gd(hc:PT X c t):ir X [c] t:=λpins s σ H Q I h=>wpAny_tests_one (hc pins s σ H Q I h)
def jW(J:It)(ρ:L2.St)(tt:TT)(te:TE)(H:Hp)(Q:VK):Prop:=∃ W:Nat->Nat->List V->Hp->Prop,(∃ m,W 0 m [] H)/\∀ i m ys H,W i m ys H ->
 (J.stop i H/\ys.length<=Yt/\∀ l,H l=none->Q (.ref l) (upd H l (.lst ys)))∨(J.go i H/\ys.length<Yt/\∃ N:List V->Hp->Prop,(∀ zs H',N zs H'->∃ m',m'<m/\W (i+1) m' zs H') /\
  ∀ x H',J.yld i H x H'->tt (some x::ρ) H' λb H1=>if b=true then te (some x::ρ) H1 λy H2=>N (ys++[y]) H2 else N ys H1)
def ux(wi:TI)(fr:List Nat)(tt:TT)(te:TE):TE:=λσ H Q=>wi σ H λJ H1=>jW J (fr.map λj=>(σ[j]?).join) tt te H1 Q
structure jX(X:Cx)(own:List Str)(scope:acU)(cl:List (Str × Ye))(fr:List Nat)(ys:List Str):Prop where
 clos:afr scope X.env=pure cl
 nocell:(scope.names.all λp=>p.2 != .cell)=true
 kind:scope.kind = .function
 names:(scope.names.all λp=>p.2 != .local || scope.names.lookup p.1 == some .local)=true
 kinds:((relabel scope X.env).names.all λp=>(p.2 != .cell && p.2 != .free) || (cl.lookup p.1).isSome)=true
 cls:k6 X cl
 aX:jf X scope cl fr ys
 kfr:(ys.all λy=>(relabel scope X.env).names.lookup y == some .cell)=true
def jg(k:Nat)(J:It)(g:TG)(ρ:L2.St)(tt:TT)(te:TE)(H:Hp)(Q:VK):Prop:=∃ W:Nat->Nat->List V->Hp->Prop,(∃ m,W 0 m [] H)/\∀ i m ys H,W i m ys H ->
 (J.stop i H/\ys.length<=Yt/\∀ l,H l=none->Q (.ref l) (upd H l (.lst ys)))∨(J.go i H/\ys.length<Yt/\∃ N:List V->Hp->Prop,(∀ zs H',N zs H'->∃ m',m'<m/\W (i+1) m' zs H') /\
  ∀ os:List (Option V),os.length=k->∀ x H',J.yld i H x H'->g x (os++ρ) H' λσ2 H2=>∃ nV,nV.length=k/\σ2=nV++ρ/\tt σ2 H2 λb H1=>if b=true then te σ2 H1 λy H2=>N (ys++[y]) H2 else N ys H1)
def Dh(k:Nat)(wi:TI)(g:TG)(fr:List Nat)(tt:TT)(te:TE):TE:=λσ H Q=>wi σ H λJ H1=>jg k J g (fr.map λj=>(σ[j]?).join) tt te H1 Q
theorem MC(I:Nat->Yd->Prop)(turn:∀ n s,I n s->Yr (model prog w) A (aaE it) (λr s₁=>match r with
 | none=>R (.ok .next) s₁
 | some v=>Yr (model prog w) A (abM target it v) (λ_ Di=>Yr (model prog w) A (assign target env v) (λ_ s₂ =>
  Yr (model prog w) A (forIn ifs true λc r=>if r=true then do let ok <- afJ c env (eval c env);pure (abQ ok) else pure (abQ r)) (λok s₃ =>
   if ok=true then Yr (model prog w) A (eval elt env) (λx s₄ =>
    Yr (model prog w) A (call (.builtin "list.append") [acc,x]) (λ_ s₅=>∃ m,m<n/\I m s₅) (ae0 (model prog w) A env λe s'=>R (.error e) s') s₄) (ae0 (model prog w) A env λe s'=>R (.error e) s') s₃
   else ∃ m,m<n/\I m s₃) (ae0 (model prog w) A env λe s'=>R (.error e) s') s₂) (ae0 (model prog w) A env λe s'=>R (.error e) s') Di) (ae0 (model prog w) A env λe s'=>R (.error e) s') s₁) (ae0 (model prog w) A env λe s'=>R (.error e) s') s) (n:Nat) (h:I n s) :
 aaS (model prog w) A (.compLoop (.ListComp elt [⟨target,iter,ifs,0⟩] scope pos) 0 it acc env) R s:=by
 refine codeAny_loop rfl I (λn s hI=>?_) n h;show Yr _ A ((compTurn (.ListComp elt [⟨target,iter,ifs,0⟩] scope pos) 0 it acc env).onRaise (λx=>do noteFrame x env;theTreesLotGoes x)) _ _ s;refine wpAny_noted ?_;rw[compTurn_list];refine XX (adV (XX (Zl (turn n s hI) (λr s₁ h₁=>?_) λ_ _ h'=>h')));cases r with
 | none=>exact X3 h₁
 | some v =>
  refine XX (Zl h₁ (λ_ Di MD=>?_) λ_ _ h'=>h');refine XX (Zl MD (λ_ s₂ h₂=>XX (Zl h₂ (λok s₃ h₃=>?_) λ_ _ h'=>h')) λ_ _ h'=>h');cases ok with
  | false=>exact X3 ⟨rfl,h₃⟩
  | true =>
   exact XX (XX (Zl h₃ (λx s₄ h₄=>XX (Zl h₄ (λ_ s₅ h₅=>X3 (X3 ⟨rfl,h₅⟩)) λ_ _ h'=>h')) λ_ _ h'=>h'))
theorem uy{l:List (Str × acE)}{p:Str × acE->Bool}(h:l.all p=true){y:Str}{k:acE}(e:l.lookup y=some k):p (y,k)=true:=by exact ZH.mp h _ (Z4 e)
def xj(i:Nat)(te:TE):TS:=λD σ H=>te σ H λv H1=>D.nx (σ.set i (some v)) H1
section
theorem ME(S:jX X own scope cl fr ys)(I2:Inv X pins σ H2 s2)(f2:∀ b∈ex,cV X pins H2 b)(hC:s2.heap.objs.size<=C)(hex:∀ b∈ex,b<s2.heap.objs.size):(dq X (own++ys) scope cl C s2 H2 ex pn).Ok:=by
 refine⟨I2.ok.mod,S.kind,I2.ok.glob,I2.ok.blt,hC,λa b c h1 h2=>?_,λy hy=>?_,λ_ _ z=>(nomatch z),I2.ok.hd,I2.ok.frames,.inl rfl,λb hb=>⟨?_,λy c e z=>?_⟩,I2.bs,X5 I2.ok.bsz I2.sz,λb o e hb=>?_,λb hb z=>?_,I2.stack,I2.pM⟩
 .exact I2.ok.inj a b c (S.cls.get a c h1) (S.cls.get b c h2)
 .have xk:(relabel scope X.env).names.lookup y=some .cell∨(relabel scope X.env).names.lookup y=some .free:=hy;have q:(cl.lookup y).isSome=true:=by
   rcases xk with e|e
   .simpa using uy S.kinds e
   .simpa using uy S.kinds e
  exact aam.mp q
 .exact Yk (Yp (hex b hb) hC)
 .exact (f2 b hb).2.2.2.2.1 y c (S.cls.get y c e) z
 .obtain⟨_,_,_,d,_,_⟩:=f2 b hb;rcases d with d|d
  .exact I2.ok.noex b o e d
  .exact absurd (Yp (X4 e) (X5 I2.ok.bsz d)) (Zk _)
 .obtain⟨_,d1,d2,_⟩:=f2 b hb;rcases Yi.mp (I2.mf b z) with q|q
  .exact d1 q
  .exact d2 q
noncomputable def iu(X:Cx)(N':List Str)(fn:Str->Bool)(scope:acU)(cl:List (Str × Ye))(C:Ye)(s2:Yd)(H2:Hp)(ex:List Ye)(pn:List (Ye × Obj)):Cx :=
 { X with N:=N',s₀:=s2,H₀:=H2,env:=aeN scope cl C X.env,outer:=X.stack,ex:=ex,fn:=fn,pn:=pn,xe:=λ_ _=>False }
theorem xl{C D:Ye}{fp:List Ye}(I2:Inv X pins σ H2 s2)(f2:∀ b∈fp,cV X pins H2 b)(hC:s2.heap.objs.size<=C)(hD:s2.heap.objs.size<=D):∀ p∈X.pn++pins,p.1≠C/\p.1≠D/\p.1∉aX X.stack/\∀ b∈fp,p.1≠b:=λp hp=>by
 obtain⟨e,n,nL,nf,_⟩:=I2.pin p hp;have lt:=X4 e;refine⟨by walk_at "o",by walk_at "o",λz=>?_,λb hb=>(f2 b hb).2.2.2.2.2 p hp⟩;rcases Yi.mp (I2.mf _ z) with q|q
 .exact nL q
 .exact nf q
theorem Dj{J:It}{fp:List Ye}{it C D:Ye}{tn:Nat->aax->Prop}{Q:VK}{RR:X7->Ye->adY->Yd->Prop}{nm:List Str}{fn:Str->Bool}{k:Nat}{os0 ρ:List (Option V)}{h1:aax}{tk:Nat}
 (hc:X.calm=true) (hg:PG (iu X nm fn scope cl C s2 H2 fp (X.pn++pins)) tg g) (hb:ir (iu X nm fn scope cl C s2 H2 fp (X.pn++pins)) ifs tt/\PE (iu X nm fn scope cl C s2 H2 fp (X.pn++pins)) elt te)
 (I2:Inv X pins σ H2 s2) (T:Turn X.prog X.w X.K tg J fp it tn) (d9:tn 0 s2.heap) (f2:∀ b∈fp,cV X pins H2 b)
 (h:jg k J g ρ tt te H2 Q)
 (qr:∀ D C s' H',Inv X pins σ H' s'->(∃ m,s'.heap.Ns C m)->cV X pins H' C->Q (.ref D) H'->RR (.ref D) C (.ok .next) s')
 (mD:os0.length=k) (I4:Inv (iu X nm fn scope cl C s2 H2 fp (X.pn++pins)) [] (os0++ρ) H2 { s2 with heap:=h1,toks:=tk }) (keep:∀ b o,s2.heap.get? b=some o->h1.get? b=some o)
 (hD:h1.get? D=some { cls:=.type "list",data:=.seq ([]:List X7).toArray 0 }) (eD:s2.heap.objs.size=D) (eC:s2.heap.objs.size+1=C)
 (bh:∀ y c,cl.lookup y=some c->c≠D/\∀ b∈fp,c≠b) :
 aaS (model X.prog X.w) X.A (.compStart (.ListComp elt [⟨tg,iter,ifs,0⟩] scope pos) 0 (.ref it) (.ref D) (aeN scope cl C X.env)) (RR (.ref D) C) { s2 with heap:=h1,toks:=tk }:=by
 obtain⟨W,⟨m0,w0⟩,turn⟩:=h;have jh:D≠C:=by walk_at "o"
 have ji:s2.heap.objs.size<=C:=by walk_at "o"
 have mE:s2.heap.objs.size<=D:=by walk_at "o"
 have jk:∀ b∈fp,b<D:=λb hb=>by obtain⟨o,e,_⟩:=T.obj 0 _ d9 b hb;exact eD ▸ X4 e
 have MF:∀ b,D<=b->b∉aX X.stack:=λb hle z=>by
  rcases Yi.mp (I2.mf b z) with q|q
  .have:=I2.lt;walk_at "o"
  .exact I2.BL (eD ▸ hle) q
 have qt:=xl I2 f2 ji mE;have Dk:tn 0 h1:=T.keep 0 _ _ d9 λb _ o e=>keep b o e;have xm:∀ (H':Hp) (o:Obj),(∀ b∈fp,H' b=none)->∀ b∈fp,cV (iu X nm fn scope cl C s2 H2 fp (X.pn++pins)) [(D,o)] H' b:=λH' o hn b hb=>by
  obtain⟨_,d1,d2,d3,d4,d5⟩:=f2 b hb;have lt:=jk b hb;refine⟨hn b hb,?_,λz=>?_,.inl hb,λy c e z=>(bh y c e).2 b hb z,λp hp=>?_⟩
  .show b≠C;walk_at "o"
  .rcases Yi.mp (I2.mf b z) with q|q
   .exact d1 q
   .exact d2 q
  .have dH:p∈(X.pn++pins)++[(D,o)]:=hp;rcases Yz.mp dH with z|z
   .exact d5 p z
   .have:p=(D,o):=by simpa using z
    subst this;show D≠b;walk_at "o"
 have loop:∀ s':Yd,s' = { s2 with heap:=h1,toks:=tk } ->
  aaS (model X.prog X.w) X.A (.compLoop (.ListComp elt [⟨tg,iter,ifs,0⟩] scope pos) 0 (.ref it) (.ref D) (aeN scope cl C X.env)) (RR (.ref D) C) s':=by
  rintro s' rfl;refine MC (λn s'=>∃ i zs H' os aq nn,os.length=k/\Inv (iu X nm fn scope cl C s2 H2 fp (X.pn++pins)) [] (os++ρ) H' s'/\tn i s'.heap/\(∀ b∈fp,H' b=none)/\H' D=none /\
   s'.heap.get? D=some { cls:=.type "list",data:=.seq (aq:List X7).toArray nn }/\Vals zs aq/\W i n zs H') ?_ m0 ⟨0,[],H2,os0,[],0,mD,I4,Dk,λb hb=>(f2 b hb).1,I2.az.fresh mE,hD,.nil,w0⟩
  rintro n s3 ⟨i,zs,H3,Dl,aq,nn,MG,I3,pX,pY,xn,MH,r3,w3⟩;have Dm:Inv (iu X nm fn scope cl C s2 H2 fp (X.pn++pins)) [(D,{ cls:=.type "list",data:=.seq aq.toArray nn })] (Dl++ρ) H3 s3:=I3.pO λp hp=>by
   have:p=(D,{ cls:=.type "list",data:=.seq aq.toArray nn }):=by simpa using hp
   subst this;exact⟨MH,xn,jh,MF D (X9 _),λv z=>nomatch z⟩
  rcases turn i n zs H3 w3 with ⟨stop,hlen,q⟩|⟨go,hlen,N,Dp,step⟩
  .refine Zl (T.done (iu X nm fn scope cl C s2 H2 fp (X.pn++pins)) rfl rfl rfl hc i _ s3 _ H3 (λ_ _=>False) Dm (xm H3 _ pY) pX stop) (λr s4 zq=>?_) λ_ _ z=>z.elim;obtain⟨hr,J4⟩:=zq;subst hr;have un:=J4.base;have MI:∀ b o,s2.heap.get? b=some o->b≠D:=λb o e=>by have:=X4 e;walk_at "o"
   have jY:∀ b u,H3 b=some u->b≠D:=λb u e z=>by rw[z,xn] at e;cases e
   refine qr D C s4 (upd H3 D (.lst zs)) ?_ ?_ ?_ (q D xn)
   .refine I2.Kp (ch:=fp) J4.os ⟨un.keep,un.slot,λb o e nn hx=>?_,un.there,λb xs e=>?_,λb o u e=>?_,λb ps e=>?_⟩ (λa o e=>?_) J4.bare λb hb=>?_
    .rw[aG (MI b o e)];exact un.free b o e nn hx
    .have:=un.fU b xs e;rw[aG (jY b _ this)];exact this
    .have:=un.fk b o u e;rw[aG (jY b _ this)];exact this
    .obtain⟨more,this⟩:=un.fV b ps e;exact⟨more,by rw[aG (jY b _ this)];exact this⟩
    .by_cases ha:a=D
     .subst ha;rw[ar] at e;cases e;exact⟨hlen,aq,nn,r3,(J4.pin (a,_) (Ym _ (YG.mpr rfl))).1⟩
     .rw[aG ha] at e;exact (J4.az a o e).cK (λ_ _ _ z=>z) (λb z=>by rw[aG (jY b _ z)];exact z) λb xs z=>by rw[aG (jY b _ z)];exact z
    .obtain⟨_,d1,d2,d3,d4,d5⟩:=f2 b hb;exact⟨d3,d1,d4,d5⟩
   .obtain⟨m,hm,_⟩:=J4.loc;exact⟨m,hm⟩
   .exact I2.gE ji (by rw[aG (Y1 jh)];exact J4.free)
  .refine Zl (T.item (iu X nm fn scope cl C s2 H2 fp (X.pn++pins)) rfl rfl rfl hc i _ s3 _ H3 (λ_ _=>False) Dm (xm H3 _ pY) pX go) (λr s4 zq=>?_) λ_ _ z=>z.elim;obtain⟨u,hr,h4⟩:=zq;subst hr;refine Zl h4 (λ_ s5 zq=>?_) λ_ _ z=>z.elim;obtain⟨y5,H5,I5,r5,yl,mi,wK⟩:=zq;have wL:=I5.pinned (xm H5 _ wK) (T.obj _ _ mi);refine Zl (hg _ s5 _ H5 y5 u _ wL r5 (step Dl MG y5 H5 yl)) (λ_ s6 zq=>?_) λ_ _ z=>z.elim;obtain⟨σ6,H6,I6,uz,Dq,e6,q6⟩:=zq;subst e6;have after:∀ (s7:Yd) (H7:Hp),Inv (iu X nm fn scope cl C s2 H2 fp (X.pn++pins)) ([(D,{ cls:=.type "list",data:=.seq aq.toArray nn })]++pW fp s5.heap) (uz++ρ) H7 s7 ->
    Inv (iu X nm fn scope cl C s2 H2 fp (X.pn++pins)) [] (uz++ρ) H7 s7/\tn (i+1) s7.heap/\(∀ b∈fp,H7 b=none)/\H7 D=none/\s7.heap.get? D=some { cls:=.type "list",data:=.seq aq.toArray nn }:=λs7 H7 I7=>by
    have pD:=I7.pin (D,{ cls:=.type "list",data:=.seq aq.toArray nn }) (Ym _ (Zc _ (YG.mpr rfl)));refine⟨I7.pO λp hp=>absurd hp (by simp),T.keep _ _ _ mi λb hb o e=>(I7.pin (b,o) (Ym _ (Ym _ (t7 hb e)))).1,λb hb=>?_,pD.2.1,pD.1⟩;obtain⟨o,e,_⟩:=T.obj _ _ mi b hb;exact (I7.pin (b,o) (Ym _ (Ym _ (t7 hb e)))).2.1
   refine Zl (hb.1 _ s6 _ H6 _ I6 q6) (λok s7 zq=>?_) λ_ _ z=>z.elim;obtain⟨H7,I7,q7⟩:=zq
   try dsimp only at q7
   by_cases az:ok=true
   .rw[if_pos az] at q7 ⊢;refine Zl (hb.2 _ s7 _ H7 _ I7 q7) (λyv s8 zq=>?_) λ_ _ z=>z.elim;obtain⟨y8,H8,I8,r8,n8⟩:=zq;obtain⟨m',xq,w8⟩:=Dp _ _ n8;obtain⟨J8,MJ,MK,Dr,xr⟩:=after s8 H8 I8;have hl:=r3.length;refine aep ad1 ⟨_,xr,rfl⟩ adL (adx _ _) (aeq D aq.toArray nn yv (by rw[Yg];walk_at "o")) ⟨xr,?_⟩;have Ds:=PySem.IsL.update xr (λa=>a.push yv);rw[List.push_toArray] at Ds;refine⟨m',xq,i+1,zs++[y8],H8,uz,aq++[yv],_,Dq,J8.turned (it:=D) (λb o b8 e=>(Yl _ _ (Y1 b8)).trans e) Dr jh (.inr mE) (λy c e z=>?_) (λp hp=>?_),T.keep _ _ _ MJ λb b8 o e=>?_,MK,Dr,Ds,r3.append (.cons r8 .nil),w8⟩
    .exact (bh y c e).1 z
    .have dH:p∈X.pn++pins:=by have:p∈(X.pn++pins)++[]:=hp;simpa using this
     exact (qt p dH).2.1
    .have:=jk b b8;exact (Yl _ _ (by walk_at "o")).trans e
   .rw[if_neg az] at q7 ⊢;obtain⟨m',xq,w7⟩:=Dp _ _ q7;obtain⟨J7,ML,MM,MN,MO⟩:=after s7 H7 I7;exact⟨m',xq,i+1,zs,H7,uz,aq,nn,Dq,J7,ML,MM,MN,MO,r3,w7⟩
 exact codeAny_compStart_list (loop _ rfl) (T.self X.A 0 _ _ _ Dk (loop _ rfl))
theorem Dt{J:It}{fp:List Ye}{it:Ye}{tn:Nat->aax->Prop}{E:X7->Yd->Prop}{Q:VK}{RR:X7->Ye->adY->Yd->Prop}
 (S:jX X own scope cl fr ys) (hc:X.calm=true) (hg:∀ (C:Ye) (s:Yd) (H:Hp) (ex:List Ye) (pn:List (Ye × Obj)),PG (dq X (own++ys) scope cl C s H ex pn) tg g)
 (hb:∀ (C:Ye) (s:Yd) (H:Hp) (ex:List Ye) (pn:List (Ye × Obj)),ir (dq X (own++ys) scope cl C s H ex pn) ifs tt/\PE (dq X (own++ys) scope cl C s H ex pn) elt te)
 (I2:Inv X pins σ H2 s2) (T:Turn X.prog X.w X.K tg J fp it tn) (d9:tn 0 s2.heap) (f2:∀ b∈fp,cV X pins H2 b)
 (h:jg own.length J g (fr.map λj=>(σ[j]?).join) tt te H2 Q)
 (qr:∀ D C s' H',Inv X pins σ H' s'->(∃ m,s'.heap.Ns C m)->cV X pins H' C->Q (.ref D) H'->RR (.ref D) C (.ok .next) s') :
 Yr (model X.prog X.w) X.A (afz []) (λacc s3=>Yr (model X.prog X.w) X.A (ace scope X.env.globals cl [] X.env.qual none .none (some X.env)) (λqu s4 =>
  aaS (model X.prog X.w) X.A (.compStart (.ListComp elt [⟨tg,iter,ifs,0⟩] scope pos) 0 (.ref it) acc { qu with scope:=relabel scope X.env }) (RR acc qu.locals) s4) E s3) E s2:=by
 refine Y5 (wpAny_newFunctionEnv (λy hy=>by simpa using ZH.mp S.nocell y hy) (λy hy=>absurd hy (by simp)) (λh1 f7 jm=>?_) S.kind);dsimp only at f7 jm ⊢;generalize eP:s2.heap.push { cls:=.type "list",dict:=none,data:=.seq ([]:List X7).toArray }=P2 at f7 jm ⊢;have sz:P2.objs.size=s2.heap.objs.size+1:=by rw[<- eP,ZM]
 have jh:s2.heap.objs.size≠P2.objs.size:=by walk_at "o"
 have keep:∀ b o,s2.heap.get? b=some o->h1.get? b=some o:=λb o e=>by have lt:=X4 e;exact jm.extBut b o (by walk_at "o") (X2 _ (eP ▸ X2 _ e))
 have hD:h1.get? s2.heap.objs.size=some { cls:=.type "list",data:=.seq ([]:List X7).toArray 0 } :=
  jm.extBut _ _ jh (X2 _ (eP ▸ Ya _ rfl))
 generalize eC:P2.objs.size=C at f7 jm jh ⊢;generalize eD:s2.heap.objs.size=D at jh hD;have ji:s2.heap.objs.size<=C:=by walk_at "o"
 have mE:s2.heap.objs.size<=D:=by walk_at "o"
 have jk:∀ b∈fp,b<s2.heap.objs.size:=λb hb=>by obtain⟨o,e,_⟩:=T.obj 0 _ d9 b hb;exact X4 e
 have xt:(dq X (own++ys) scope cl C s2 H2 fp (X.pn++pins)).Ok:=ME S I2 f2 ji (λb hb=>by have:=jk b hb;walk_at "o");have qt:=xl I2 f2 ji mE;have I4:Inv (dq X (own++ys) scope cl C s2 H2 fp (X.pn++pins)) [] ((own.map λ_=>none)++fr.map λj=>(σ[j]?).join) H2 { s2 with heap:=h1,toks:=s2.toks+([]:List (Str × X7)).length }:=by
  refine⟨xt,rfl,I2.bare,Un.kept keep,⟨_,f7,λi y v e1 e2 e3=>?_⟩,λy c e=>?_,I2.az.fresh ji,λy c e=>I2.gC y c (S.cls.get y c e),λp hp=>?_,I2.az.kept keep,?_⟩
  .by_cases hio:i<own.length
   .rw[YX (by simpa using hio)] at e2;simp[hio] at e2
   .rw[Za (by simp;lia)] at e2;have k7:ys[i-own.length]?=some y:=by
     have:(own++ys)[i]?=some y:=e1
     rwa [Za (by lia)] at this
    rw[XY] at e2;obtain⟨j,c,hN,hσ,hk,xu,n6⟩:=S.aX.get (i-own.length) y v k7 e2;obtain⟨m,hm,hl⟩:=I2.loc;obtain⟨u,ru,lu⟩:=hl j y v hN hσ (.inr (.inl hk));refine⟨u,ru,.inr ⟨.inl ?_,c,xu,?_⟩⟩
    .have z:=ZH.mp S.kfr y (Yo k7);exact (by simpa using z:(relabel scope X.env).names.lookup y=some .cell)
    .rcases lu with ⟨z,_⟩|⟨_,c',e',q'⟩
     .rw[hk] at z;cases z
     .rw[n6] at e';cases e';obtain⟨o,ho,hd⟩:=q';exact⟨o,keep _ _ ho,hd⟩
  .obtain⟨v,o,ho,hd⟩:=I2.cell y c (S.cls.get y c e);exact⟨v,o,keep _ _ ho,hd⟩
  .have dH:p∈X.pn++pins:=by have:p∈(X.pn++pins)++[]:=hp;simpa using this
   obtain⟨e,n,_,_,d⟩:=I2.pin p dH;obtain⟨p1,_,p3,_⟩:=qt p dH;exact⟨keep _ _ e,n,p1,p3,d⟩
  .show ((own.map λ_=>(none:Option V))++fr.map λj=>(σ[j]?).join).length=(own++ys).length;simp[S.aX.len]
 refine Dj hc (hg C s2 H2 fp (X.pn++pins)) (hb C s2 H2 fp (X.pn++pins)) I2 T d9 f2 h qr (by simp) I4 keep hD eD (sz.symm.trans eC) λy c e=>?_;obtain⟨v,o,ho,_⟩:=I2.cell y c (S.cls.get y c e);have:=X4 ho;exact⟨by walk_at "o",λb hb z=>(f2 b hb).2.2.2.2.1 y c (S.cls.get y c e) z⟩
theorem Du{wi:TI}{B:L2.St->It->Hp->VK->Prop}(S:jX X own scope cl fr ys)(hc:X.calm=true)(hi:PI X tg iter wi)(hg:∀ (C:Ye) (s:Yd) (H:Hp) (ex:List Ye) (pn:List (Ye × Obj)),PG (dq X (own++ys) scope cl C s H ex pn) tg g)
 (hb:∀ (C:Ye) (s:Yd) (H:Hp) (ex:List Ye) (pn:List (Ye × Obj)),ir (dq X (own++ys) scope cl C s H ex pn) ifs tt/\PE (dq X (own++ys) scope cl C s H ex pn) elt te)
 (hB:∀ ρ J H Q,B ρ J H Q->jg own.length J g ρ tt te H Q) (hs:∀ z,Z1 iter X.env z=pure z:=by intro _;rfl):PE X (.ListComp elt [⟨tg,iter,ifs,0⟩] scope pos) (λσ H Q=>wi σ H λJ H1=>B (fr.map λj=>(σ[j]?).join) J H1 Q):=by
 intro pins s σ H Q I h;rw[eval_ListComp];refine aba (use:=none) rfl hs S.clos S.kind (λy hy hl=>?_) (aB (hi pins s σ H _ I h) λxv s1 h1=>aB h1 λpV s2 h2=>?_)
 .have z:=ZH.mp S.names y hy;rw[hl] at z;simpa using z
 .obtain⟨it,fp,tn,J,H2,rfl,I2,T,d9,f2,mF⟩:=h2;refine Dt (RR:=λacc C=>compPost (model X.prog X.w) X.A X.xe none (EP X pins σ Q) acc C) S hc hg hb I2 T d9 f2 (hB _ _ _ _ mF) λD C s' H' J' hn fC q=>?_;obtain⟨m,hm⟩:=hn;obtain⟨c0,c1,c2,c3,c4,c5⟩:=fC;exact⟨m,hm,λh' sb=>⟨.ref D,H',J'.turned (it:=C) (λb o hb e=>sb.extBut b o hb e) c0 c1 c3 c4 c5,rfl,q⟩⟩
theorem MP{wi:TI}{B:L2.St->It->Hp->VK->Prop}{y:Str}{py uA:Pos}{i:Nat}(S:jX X own scope cl fr ys)(hc:X.calm=true)(hN:X.N.Nodup)(hy:X.N[i]?=some y)(hl:X.env.scope.names.lookup y=some .local)(hi:PI X tg iter wi)(hg:∀ (C:Ye) (s:Yd) (H:Hp) (ex:List Ye) (pn:List (Ye × Obj)),PG (dq X (own++ys) scope cl C s H ex pn) tg g)
 (hb:∀ (C:Ye) (s:Yd) (H:Hp) (ex:List Ye) (pn:List (Ye × Obj)),ir (dq X (own++ys) scope cl C s H ex pn) ifs tt/\PE (dq X (own++ys) scope cl C s H ex pn) elt te)
 (hB:∀ ρ J H Q,B ρ J H Q->jg own.length J g ρ tt te H Q) (xy:abL (.ListComp elt [⟨tg,iter,ifs,0⟩] scope pos) (some (.Name y py)) uA.line X.env=pure true:=by rfl)
 (hs:∀ z,Z1 iter X.env z=pure z:=by intro _;rfl):PS X (.Assign [.Name y py] (.ListComp elt [⟨tg,iter,ifs,0⟩] scope pos) uA) (xj i λσ H Q=>wi σ H λJ H1=>B (fr.map λj=>(σ[j]?).join) J H1 Q):=by
 intro pins s σ H Dn I h;rw[exec_Assign_Name_used _ _ _ _ xy];refine XX (adV (XX ?_));show Yr _ X.A (do let _ <- comprehension (.ListComp elt [⟨tg,iter,ifs,0⟩] scope pos) scope X.env _ (afz []) false (eval iter X.env) (some (assign (.Name y py) X.env))) _ _ s;refine XX (aB (aba (use:=some (assign (.Name y py) X.env)) (Q:=λ_ s'=>SP X pins Dn .next s') rfl hs S.clos S.kind (λz hz hl=>?_) (aB (hi pins s σ H _ I h) λxv s1 h1=>aB h1 λpV s2 h2=>?_)) λ_ s' hq=>X3 (X3 hq))
 .have z':=ZH.mp S.names z hz;rw[hl] at z';simpa using z'
 .obtain⟨it,fp,tn,J,H2,rfl,I2,T,d9,f2,mF⟩:=h2;refine Dt (RR:=λacc C=>compPost (model X.prog X.w) X.A X.xe (some (assign (.Name y py) X.env)) (λ_ s'=>SP X pins Dn .next s') acc C) S hc hg hb I2 T d9 f2 (hB _ _ _ _ mF) λD C s' H' J' hn fC q=>?_;obtain⟨m,oC,es,ep,ho,hd,hr⟩:=hn;obtain⟨c0,c1,c2,c3,c4,c5⟩:=fC;have J2:Inv X (pins++[(C,oC)]) σ H' s':=J'.pO λp hp=>by
   rcases Yz.mp hp with z|z
   .exact J'.pin p (Ym _ z)
   .have:p=(C,oC):=by simpa using z
    subst this;exact⟨ho,c0,c1,c2,λv z=>by rw[hd] at z;cases z⟩
  show Yr _ X.A (assign (.Name y py) X.env (.ref D)) _ _ _;refine aB (fW (X:=X) hN hy (.inl hl) (.inr hl) _ s' σ H' (.ref D) (.ref D) (λσ' gJ=>σ'=σ.set i (some (.ref D))/\gJ=H') J2 rfl ⟨rfl,rfl⟩) λ_ s3 zq=>?_;obtain⟨σ3,H3,J3,e1,e2⟩:=zq;subst e1 e2;obtain⟨pc,Xn,_⟩:=J3.pin (C,oC) (Ym _ (Ym _ (YG.mpr rfl)));refine⟨m,⟨oC,es,ep,pc,hd,hr⟩,λh' sb=>⟨_,H3,J3.t8.turned (it:=C) (λb o hb e=>sb.extBut b o hb e) c0 c1 c3 c4 c5,q⟩⟩
theorem xA(S:jX X own scope cl fr ys)(hc:X.calm=true)(hi:PI X tg iter wi)(hg:∀ (C:Ye) (s:Yd) (H:Hp) (ex:List Ye) (pn:List (Ye × Obj)),PG (dq X (own++ys) scope cl C s H ex pn) tg g)(hb:∀ (C:Ye) (s:Yd) (H:Hp) (ex:List Ye) (pn:List (Ye × Obj)),ir (dq X (own++ys) scope cl C s H ex pn) ifs tt/\PE (dq X (own++ys) scope cl C s H ex pn) elt te)(hs:∀ z,Z1 iter X.env z=pure z:=by intro _;rfl):PE X (.ListComp elt [⟨tg,iter,ifs,0⟩] scope pos) (Dh own.length wi g fr tt te):=Du (B:=λρ J H Q=>jg own.length J g ρ tt te H Q) S hc hi hg hb (λ_ _ _ _ h=>h) hs
end
theorem xB(h:jW J ρ tt te H Q):jg 1 J (cg 0) ρ tt te H Q:=by
 obtain⟨W,w0,turn⟩:=h;refine⟨W,w0,λi m ys H hw=>(turn i m ys H hw).imp id λ⟨a,b,N,hN,st⟩=>⟨a,b,N,hN,λos ho x H' y=>?_⟩⟩
 match os,ho with
 | [_],_=>exact⟨[some x],rfl,rfl,st x H' y⟩
section
theorem bz.g(S:bz X x scope cl fr ys):jX X [x] scope cl fr ys:=⟨S.clos,S.nocell,S.kind,S.names,S.kinds,S.cls,S.aX,S.kfr⟩
theorem bz.pg(S:bz X x scope cl fr ys)(C:Ye)(s:Yd)(H:Hp)(ex:List Ye)(pn:List (Ye × Obj)):PG (dq X ([x]++ys) scope cl C s H ex pn) (.Name x px) (cg 0) :=
 fW (X:=dq X (x::ys) scope cl C s H ex pn) (i:=0) S.nd rfl (.inl (YA S.own)) (.inr (YA S.own))
theorem cE(S:bz X x scope cl fr ys)(hc:X.calm=true)(hi:PI X (.Name x px) iter wi)(hb:∀ (C:Ye) (s:Yd) (H:Hp) (ex:List Ye) (pn:List (Ye × Obj)),ir (dq X (x::ys) scope cl C s H ex pn) ifs tt/\PE (dq X (x::ys) scope cl C s H ex pn) elt te)(hs:∀ z,Z1 iter X.env z=pure z:=by intro _;rfl):PE X (.ListComp elt [⟨.Name x px,iter,ifs,0⟩] scope pos) (ux wi fr tt te):=Du (B:=λρ J H Q=>jW J ρ tt te H Q) S.g hc hi S.pg hb (λ_ _ _ _ h=>xB h) hs
theorem k8(S:bz X x scope cl fr ys)(hc:X.calm=true)(hN:X.N.Nodup)(hy:X.N[i]?=some y)(hl:X.env.scope.names.lookup y=some .local)(hi:PI X (.Name x px) iter wi)(hb:∀ (C:Ye) (s:Yd) (H:Hp) (ex:List Ye) (pn:List (Ye × Obj)),ir (dq X (x::ys) scope cl C s H ex pn) ifs tt/\PE (dq X (x::ys) scope cl C s H ex pn) elt te)(xy:abL (.ListComp elt [⟨.Name x px,iter,ifs,0⟩] scope pos) (some (.Name y py)) uA.line X.env=pure true:=by rfl)(hs:∀ z,Z1 iter X.env z=pure z:=by intro _;rfl):PS X (.Assign [.Name y py] (.ListComp elt [⟨.Name x px,iter,ifs,0⟩] scope pos) uA) (xj i (ux wi fr tt te)):=MP (B:=λρ J H Q=>jW J ρ tt te H Q) S.g hc hN hy hl hi S.pg hb (λ_ _ _ _ h=>xB h) xy hs
end
def el(Ok:Hp->Prop)(ρ:L2.St)(tt:TT)(te:TE):List V->List V->Hp->(List V->Hp->Prop)->Prop
 | [],ys,H,Q=>Ok H/\Q ys H
 | x::r,ys,H,Q=>Ok H/\tt (some x::ρ) H λb H1=>if b=true then te (some x::ρ) H1 λy H2=>el Ok ρ tt te r (ys++[y]) H2 Q else el Ok ρ tt te r ys H1 Q
structure qv(J:It)(Ok:Hp->Prop)(xs:List V):Prop where
 go:∀ i H x,Ok H->xs[i]?=some x->J.go i H
 yld:∀ i H x H',Ok H->J.yld i H x H'->H'=H/\(i<xs.length->xs[i]?=some x)
 stop:∀ i H,Ok H->xs.length<=i->J.stop i H
section
variable{J:It}{Ok:Hp->Prop}{xs:List V}{ρ:L2.St}{tt:TT}{te:TE}{H:Hp}{Q:VK}{K:XW}{a:Ye}
theorem bR(O:qv J Ok xs)(hn:xs.length<=Yt)(h:el Ok ρ tt te xs [] H λys H'=>∀ l,H' l=none->Q (.ref l) (upd H' l (.lst ys))):jW J ρ tt te H Q:=by
 refine⟨λi m ys H=>m=xs.length-i/\i<=xs.length/\ys.length<=i/\el Ok ρ tt te (xs.drop i) ys H λys H'=>∀ l,H' l=none->Q (.ref l) (upd H' l (.lst ys)),⟨_,rfl,YB _,X9 _,h⟩,?_⟩;rintro i m ys H ⟨rfl,hi,hy,g⟩;by_cases aS:i<xs.length
 .have e:=Y3 aS;rw[e] at g;obtain⟨g0,g1⟩:=g;refine .inr ⟨O.go i H _ g0 (X0 aS),by walk_at "o",λzs H'=>zs.length<=i+1/\el Ok ρ tt te (xs.drop (i+1)) zs H' λys H'=>∀ l,H' l=none->Q (.ref l) (upd H' l (.lst ys)),λzs H' q=>⟨_,by walk_at "o",rfl,aS,q.1,q.2⟩,λx H' y=>?_⟩;obtain⟨rfl,ex⟩:=O.yld i H x H' g0 y;have ex:=ex aS;rw[X0 aS] at ex;cases ex;have l1:∀ y:V,(ys++[y]).length<=i+1:=λy=>by rw[Yh,Yx];walk_at "o"
  have l2:ys.length<=i+1:=by walk_at "o"
  simp only[l1,l2,true_and];exact g1
 .have e:i=xs.length:=by walk_at "o"
  subst e;rw[acR] at g;exact .inl ⟨O.stop _ H g.1 (X9 _),by walk_at "o",g.2⟩
theorem eo:qv (i0 K a) (λH=>ai K H a xs) xs :=
 ⟨λ_ _ _ h e=>⟨xs,_,h,e⟩,λ_ _ _ _ h y=>⟨y.1,λ_=>y.2 xs h⟩,λ_ _ h hi=>⟨xs,h,hi⟩⟩
theorem Dv:qv (jQ K a) (λH=>ah K H a xs) xs :=
 ⟨λ_ _ _ h e=>⟨xs,_,h,e⟩,λ_ _ _ _ h y=>⟨y.1,λ_=>y.2 xs h⟩,λ_ _ h hi=>⟨xs,h,hi⟩⟩
theorem gK{lo:Int}{n:Nat}:qv (gF lo n) (λ_=>True) ((Yn n).map λk=>V.int (lo+(k:Nat))) :=
 ⟨λi _ _ _ e=>by
  have:=(X6.mp e).1;show i<n;simpa using this,λi _ _ _ _ y=>⟨y.1,λhi=>by
   have cF:i<n:=by simpa using hi
   rw[y.2,Yf,YN cF];rfl⟩,λi _ _ hi=>by
   show n<=i;simpa using hi⟩
theorem n9(bJ:Ok H):∀ {xs ys:List V},(∀ x∈xs,∀ Q,Q (p x) H->tt (some x::ρ) H Q)->(∀ x∈xs,p x=true->∀ Q,Q (f x) H->te (some x::ρ) H Q)->Q' (ys++(xs.filter p).map f) H->el Ok ρ tt te xs ys H Q'
 | [],ys,_,_,q=>⟨bJ,by simpa using q⟩
 | x::r,ys,ht,he,q=>by
  refine⟨bJ,ht x (.head _) _ ?_⟩;by_cases hb:p x=true
  .rw[if_pos hb];refine he x (.head _) hb _ (n9 bJ (λy hy=>ht y (.tail _ hy)) (λy hy=>he y (.tail _ hy)) ?_);rw[Y4,if_pos hb] at q;simpa using q
  .rw[if_neg hb];refine n9 bJ (λy hy=>ht y (.tail _ hy)) (λy hy=>he y (.tail _ hy)) ?_;rw[Y4,if_neg hb] at q;exact q
end
section
variable{X:Cx}{K:XW}
theorem MQ(h:X.K=K):i6 X (jU K):=h ▸ bf
theorem MR(h:X.K=K):fu X (.builtin "len") (λxs H Q=>∃ x n,xs=[x]/\uf K x H n/\Q (.int n) H):=h ▸ cX
theorem MS(h:X.K=K):a8 X (Zd .NotIn) (uk K true):=h ▸ Lx
end
theorem MT{prog:Y0}{w:Zw}{A:ZP}{E:X7->Yd->Prop}{s:Yd}{id:String}{b:aaJ}{args:List X7}{kw:List (Str × X7)}{Q:X7->Yd->Prop}(hk:ae1 id=none)(hp:ae2 id=true)
 (hb:ab8 table id=some b) (ha:adj id ⟨args,kw⟩)
 (hc:Yr (model prog w) A.in1 (b ⟨args,kw⟩) (λfin s'=>match fin with
   | .done f=>(match (Except.ok f:adY) with|.ok (.ret v)=>Q v s'|.ok _=>False|.error e=>E e s')
   | .again c'=>c'.quiet=true/\aaS (model prog w) A c' (λr s'=>match r with|.ok (.ret v)=>Q v s'|.ok _=>False|.error e=>E e s') s') E s) :
 Yr (model prog w) A (call (.builtin id) args kw) Q E s:=by
 refine aem (ady hp hb ?_);simp only[aeI,hk];cases hsig:Manifest.signature? id with
 | none=>exact X3 hc
 | some sig =>
  have qp:Bind.checkArgs id sig ⟨args,kw⟩=pure ():=by simpa only [adj,hsig] using ha
  simp only[qp];exact X3 hc
noncomputable def xC:{ F:String->CmpOp->aaJ // F "max" .Gt=aaJ.«max.loop»/\F "min" .Lt=aaJ.«min.loop» }:=⟨_,rfl,rfl⟩
noncomputable def Dw:{ F:String->aaJ // F "max" = aaJ.«max»/\F "min" = aaJ.«min» }:=⟨_,rfl,rfl⟩
theorem Dx{nx id:String}{op:CmpOp}(nm:(toString nx++toString ".loop" : String)=id)(e1:ab8 table id=some (xC.1 nx op))(e2:ae2 id=true){prog:Y0}{w:Zw}{A:ZP}{R:adY->Yd->Prop}{I S:Ye}{fp wr:List Ye}{n:Nat}{P:Nat->X7->Prop}{St:Nat->aax->Prop}{G:aax->Prop}{bt:Nat->Nat->Bool}{kw:List (Str × X7)}
 (W:Walks prog w A.in1 I fp wr n P St) (hG:∀ h h',G h->(∀ b o,b∉wr->b≠S->h.get? b=some o->h'.get? b=some o)->G h')
 (qw:∀ i j vi vj (s:Yd) (Q:X7->Yd->Prop) (E:X7->Yd->Prop),P i vi->P j vj->G s.heap->Q (.bool (bt i j)) s->Yr (model prog w) A.in1 (acH op vi vj) Q E s) (hS:S∉fp):∀ (k j:Nat) (s:Yd) (vb:X7) (c:Nat),k+(j+1)=n->St (j+1) s.heap->G s.heap->P (abR bt j) vb ->
  s.heap.get? S=some { cls:=.type "list",dict:=none,data:=.seq #[vb,vb] c,slots:=#[] } ->
  (∀ v h' tk,P (abR bt (n-1)) v->(∀ b o,b∉wr->b≠S->s.heap.get? b=some o->h'.get? b=some o)->R (.ok (.ret v)) { s with heap:=h',toks:=tk }) ->
  aaS (model prog w) A (.builtin id ⟨[.ref I,.none,.ref S],kw⟩) R s:=by
 have nS:S∉wr:=λz=>hS (W.sub _ z);intro k
 induction k with
 | zero =>
  intro j s vb c e st g pb oS fin;have e':j+1=n:=by walk_at "o"
  refine Zb e1 ?_;rw[YV e2 _];show Yr _ A.in1 (ad2 (.ref S) >>= _) _ _ s;refine XX (aaT oS rfl ?_);show Yr _ A.in1 (tryCatch (aaE (.ref I)) _ >>= _) _ _ s;refine XX (aaU (W.done s _ _ (e' ▸ st) λh1 tk kp=>?_));have ix:=kp S _ nS oS;show Yr _ A.in1 (acu S (λ_=>#[]) >>= _) _ _ _;refine XX ?_;refine Z5 ix rfl (XX (acI (X3 ?_)));exact fin vb _ tk (by rw[<- e'];exact pb) λb o hw hb q=>(Yl _ _ (Y1 hb)).trans (kp b o hw q)
 | succ k ih =>
  intro j s vb c e st g pb oS fin;have lt:j+1<n:=by walk_at "o"
  refine Zb e1 ?_;rw[YV e2 _];show Yr _ A.in1 (ad2 (.ref S) >>= _) _ _ s;refine XX (aaT oS rfl ?_);show Yr _ A.in1 (tryCatch (aaE (.ref I)) _ >>= _) _ _ s;refine XX (aaU (W.item (j+1) s _ _ lt st λv h1 tk pv og kp=>?_));have ix:=kp S _ nS oS;have g1:G h1:=hG _ _ g λb o hw _ q=>kp b o hw q;show Yr _ A.in1 (tryCatch (holding [v,v] (acH op v vb >>= _)) _ >>= _) _ _ _;refine XX (aaU (Zz (XX (qw (j+1) (abR bt j) v vb _ _ _ pv pb g1 ?_))));refine XX (Zz (YR ?_));refine XX (acI (X3 ?_));cases hb:bt (j+1) (abR bt j) with
  | true =>
   simp only[if_true];refine XX ?_;refine Z5 ix rfl (XX (acI ?_));rw[nm];refine X3 ⟨ZX e2 _,ih (j+1) _ v _ (by walk_at "o") (W.frame _ _ _ og λb hf o q=>?_) (hG _ _ g1 λb o _ lg q=>(Yl _ _ (Y1 lg)).trans q) (by simp only[abR,hb,if_true];exact pv) (YQ _ ix rfl) λv2 h2 uB p2 k2=>?_⟩
   .exact (Yl _ _ (λz:S=b=>hS (by rw[z];exact hf))).trans q
   .exact fin v2 h2 uB p2 λb o hw lg q=>k2 b o hw lg ((Yl _ _ (Y1 lg)).trans (kp b o hw q))
  | false =>
   simp only[Yu,if_false];refine XX (acI ?_);rw[nm];refine X3 ⟨ZX e2 _,ih (j+1) _ vb c (by walk_at "o") og g1 (by simp only[abR,hb,Yu,if_false];exact pb) ix λv2 h2 uB p2 k2=>?_⟩;exact fin v2 h2 uB p2 λb o hw lg q=>k2 b o hw lg (kp b o hw q)
theorem MU{nx id:String}{op:CmpOp}(nm:(toString nx++toString ".loop" : String)=id)(e1:ab8 table id=some (xC.1 nx op))(e2:ae2 id=true)(k0:ae1 nx=none)(k1:ae2 nx=true)(k2:ab8 table nx=some (Dw.1 nx))(k3:∀ a d:X7,adj nx ⟨[a],[("default",d)]⟩){prog:Y0}{w:Zw}{A:ZP}{E:X7->Yd->Prop}{s:Yd}{l:Ye}{xs:Array (Int × Tok)}{d:X7}{Q:X7->Yd->Prop}{bt:Nat->Nat->Bool}(e4:CmpOf prog w A.in1 op (λi v=>(ZS xs)[i]?=some v) bt)(hh:A.handled=none)(hl:s.heap.IsList l (ZS xs))
 (h0:xs.size=0->∀ h' tk,(∀ b o,s.heap.get? b=some o->h'.get? b=some o)->Q d { s with heap:=h',toks:=tk })
 (h1:0<xs.size->∀ v h' tk,(ZS xs)[abR bt (xs.size-1)]?=some v->(∀ b o,s.heap.get? b=some o->h'.get? b=some o)->Q v { s with heap:=h',toks:=tk }) :
 Yr (model prog w) A (call (.builtin nx) [.ref l] [("default",d)]) Q E s:=by
 refine MT k0 k1 k2 (k3 _ _) ?_;show Yr _ A.in1 (Z6 _ ["key","default"] 0 ⟨[],[("default",d)]⟩ >>= _) _ _ s;refine XX (acJ (show Z6 _ ["key","default"] 0 ⟨[],[("default",d)]⟩=pure [none,some d] from rfl) ?_);refine XX (X3 ?_);refine XX (iter_intList hl λs2 e2 st jk MV=>?_);subst e2;refine XX (Y5 ?_);have W:=Walks.list (prog:=prog) (w:=w) (A:=A.in1) hh s.heap.objs.size l MV (ZS xs);generalize eP:(s.heap.push { cls:=.type "list_iterator",data:=.fields #[.ref l,.int 0 0] })=P2 at st jk ⊢;have oh:P2.objs.size∉[s.heap.objs.size,l]:=λz=>Zk _ (jk _ z);have up:∀ b o,s.heap.get? b=some o->b≠P2.objs.size/\b∉[s.heap.objs.size]/\(P2.push { cls:=.type "list",dict:=none,data:=.seq ([]:List X7).toArray }).get? b=some o:=λb o q=>by
  have lt:=X4 q;have q2:P2.get? b=some o:=by rw[<- eP];exact X2 _ q
  refine⟨Yk (X4 q2),λz=>?_,X2 _ q2⟩;have:b=s.heap.objs.size:=by simpa using z
  walk_at "o"
 rw[nm];refine X3 ⟨ZX e2 _,?_⟩;have oS:(P2.push { cls:=.type "list",dict:=none,data:=.seq ([]:List X7).toArray }).get? P2.objs.size=some { cls:=.type "list",dict:=none,data:=.seq #[] 0,slots:=#[] }:=Ya _ rfl;have cL:=W.frame 0 P2 (P2.push { cls:=.type "list",dict:=none,data:=.seq ([]:List X7).toArray }) st λb _ o q=>X2 _ q;have nS:P2.objs.size∉[s.heap.objs.size]:=λz=>oh (by simp at z;simp[z]);by_cases hz:xs.size=0
 .have xD:(P2.push { cls:=.type "list",dict:=none,data:=.seq ([]:List X7).toArray }).IsListIter s.heap.objs.size l (ZS xs).size/\(P2.push { cls:=.type "list",dict:=none,data:=.seq ([]:List X7).toArray }).IsList l (ZS xs):=by
   have:(ZS xs).size=0:=by simpa [ZS] using hz
   rw[this];exact cL
  refine Zb e1 ?_;rw[YV e2 _];show Yr _ A.in1 (ad2 (.ref P2.objs.size) >>= _) _ _ _;refine XX (aaT oS rfl ?_);show Yr _ A.in1 (tryCatch (aaE (.ref s.heap.objs.size)) _ >>= _) _ _ _;refine XX (aaU (W.done _ _ _ xD λh2 tk kp=>?_));refine XX (adu (X3 ?_));exact h0 hz h2 tk λb o q=>kp b o (up b o q).2.1 (up b o q).2.2
 .have hp:0<xs.size:=by walk_at "o"
  have hn:0<(ZS xs).size:=by simpa [ZS] using hp
  refine Zb e1 ?_;rw[YV e2 _];show Yr _ A.in1 (ad2 (.ref P2.objs.size) >>= _) _ _ _;refine XX (aaT oS rfl ?_);show Yr _ A.in1 (tryCatch (aaE (.ref s.heap.objs.size)) _ >>= _) _ _ _;refine XX (aaU (W.item 0 _ _ _ hn cL λv h2 tk pv og kp=>?_));have ix:=kp _ _ nS oS;show Yr _ A.in1 (acu P2.objs.size (λ_=>#[v,v]) >>= _) _ _ _;refine XX ?_;refine Z5 ix rfl ?_;rw[nm];refine X3 ⟨ZX e2 _,Dx nm e1 e2 (G:=λ_=>True) W (λ_ _ _ _=>trivial) (λi j vi vj s Q E h1 h2 _ q=>e4 i j vi vj s Q E h1 h2 q) oh ((ZS xs).size-1) 0 _ v _ (by walk_at "o") (W.frame _ _ _ og λb hf o q=>?_) trivial pv (YQ _ ix rfl) λv2 h3 xE p3 k3=>?_⟩
  .exact (Yl _ _ (λz:P2.objs.size=b=>oh (by rw[z];exact hf))).trans q
  .refine h1 hp v2 h3 xE (by simpa [ZS] using p3) λb o q=>?_;exact k3 b o (up b o q).2.1 (up b o q).1 ((Yl _ _ (Y1 (up b o q).1)).trans (kp b o (up b o q).2.1 (up b o q).2.2))
noncomputable def jn:List Int->Int
 | []=>0
 | x::r=>r.foldl (λb y=>if y > b then y else b) x
noncomputable def jZ:List Int->Int
 | []=>0
 | x::r=>r.foldl (λb y=>if y<b then y else b) x
theorem Dy:∀ (r:List Int) (b:Int),b<=r.foldl (λb y=>if y > b then y else b) b/\(∀ y∈r,y<=r.foldl (λb y=>if y > b then y else b) b)/\(r.foldl (λb y=>if y > b then y else b) b=b∨r.foldl (λb y=>if y > b then y else b) b∈r)
 | [],b=>⟨Y6 _,λ_ z=>(nomatch z),.inl rfl⟩
 | x::r,b=>by
  simp only[ae3];obtain⟨h1,h2,h3⟩:=Dy r (if x > b then x else b);refine⟨?_,λy hy=>?_,?_⟩
  .refine aas ?_ h1;split<;>lia
  .rcases Yi.mp hy with rfl|hy
   .refine aas ?_ h1;split<;>lia
   .exact h2 y hy
  .rcases h3 with h3|h3
   .rw[h3];split
    .right;simp
    .left;rfl
   .right;exact YU _ h3
theorem Dz:∀ (r:List Int) (b:Int),r.foldl (λb y=>if y<b then y else b) b<=b/\(∀ y∈r,r.foldl (λb y=>if y<b then y else b) b<=y)/\(r.foldl (λb y=>if y<b then y else b) b=b∨r.foldl (λb y=>if y<b then y else b) b∈r)
 | [],b=>⟨Y6 _,λ_ z=>(nomatch z),.inl rfl⟩
 | x::r,b=>by
  simp only[ae3];obtain⟨h1,h2,h3⟩:=Dz r (if x<b then x else b);refine⟨?_,λy hy=>?_,?_⟩
  .refine aas h1 ?_;split<;>lia
  .rcases Yi.mp hy with rfl|hy
   .refine aas h1 ?_;split<;>lia
   .exact h2 y hy
  .rcases h3 with h3|h3
   .rw[h3];split
    .right;simp
    .left;rfl
   .right;exact YU _ h3
theorem DA(h:ns≠[]):jn ns∈ns/\∀ y∈ns,y<=jn ns:=by
 cases ns with
 | nil=>exact absurd rfl h
 | cons x r =>
  obtain⟨h1,h2,h3⟩:=Dy r x;refine⟨?_,λy hy=>?_⟩
  .rcases h3 with h3|h3
   .show r.foldl _ x∈_;rw[h3];exact .head _
   .exact .tail _ h3
  .rcases Yi.mp hy with rfl|hy
   .exact h1
   .exact h2 y hy
theorem DB(h:ns≠[]):jZ ns∈ns/\∀ y∈ns,jZ ns<=y:=by
 cases ns with
 | nil=>exact absurd rfl h
 | cons x r =>
  obtain⟨h1,h2,h3⟩:=Dz r x;refine⟨?_,λy hy=>?_⟩
  .rcases h3 with h3|h3
   .show r.foldl _ x∈_;rw[h3];exact .head _
   .exact .tail _ h3
  .rcases Yi.mp hy with rfl|hy
   .exact h1
   .exact h2 y hy
theorem qx:∀ {ns:List Int} {aq:List X7},Vals (ns.map V.int) aq->∃ xs:Array (Int × Tok),aq.toArray=ZS xs/\xs.toList.map (·.1)=ns
 | [],_,.nil=>⟨#[],by simp[ZS],rfl⟩
 | n::ns,_,.cons (l₂:=aq) r t=>by
  obtain⟨xs,e1,e2⟩:=qx (ns:=ns) t;obtain⟨tk,rfl⟩:=r;refine⟨((n,tk)::xs.toList).toArray,?_,?_⟩
  .have:aq=xs.toList.map (λp=>aak p.1 p.2):=by have:=congrArg aeB e1;simpa [ZS] using this
   simp[ZS,this]
  .simp[e2]
theorem DC(e:xs.toList.map (·.1)=ns)(hi:i<xs.size):adM xs i∈ns/\adM xs i=ns.getD i 0:=by subst e;unfold adM;rw[YK hi];refine⟨Yc.mpr ⟨xs[i],by simp,rfl⟩,?_⟩;simp[hi]
theorem DD(e:xs.toList.map (·.1)=ns)(hy:y∈ns):∃ i,i<xs.size/\adM xs i=y:=by
 subst e;obtain⟨p,hp,rfl⟩:=Yc.mp hy;obtain⟨i,hi,e⟩:=adz.mp hp;refine⟨i,by simpa using hi,?_⟩;unfold adM;have cF:i<xs.size:=by simpa using hi
 rw[YK cF];have:xs[i]=p:=by simpa using e
 rw[this];rfl
theorem DE(e:xs.toList.map (·.1)=ns)(h:0<xs.size):adM xs (abR (λi j=>decide (adM xs i > adM xs j)) (xs.size-1))=jn ns:=by
 obtain⟨h1,h2⟩:=argBest_gt (adM xs) (xs.size-1);have a7:ns≠[]:=by intro z;subst z;have q:=congrArg List.length e;rw[XY,aat,aaK] at q;lia
 obtain⟨m1,m2⟩:=DA a7;refine ae4 (m2 _ (DC e (by lia)).1) ?_;obtain⟨i,hi,ei⟩:=DD e m1;rw[<- ei];exact h2 i (by lia)
theorem DF(e:xs.toList.map (·.1)=ns)(h:0<xs.size):adM xs (abR (λi j=>decide (adM xs i<adM xs j)) (xs.size-1))=jZ ns:=by
 obtain⟨h1,h2⟩:=argBest_lt (adM xs) (xs.size-1);have a7:ns≠[]:=by intro z;subst z;have q:=congrArg List.length e;rw[XY,aat,aaK] at q;lia
 obtain⟨m1,m2⟩:=DB a7;refine ae4 ?_ (m2 _ (DC e (by lia)).1);obtain⟨i,hi,ei⟩:=DD e m1;rw[<- ei];exact h2 i (by lia)
def DG(R:V->Hp->Prop):List V->Hp->Prop
 | [x],H=>R x H
 | _,_=>False
theorem MW:∀ {vs:List V} {H:Hp},DG R vs H->∃ x,vs=[x]/\R x H
 | [x],_,h=>⟨x,rfl,h⟩
section
noncomputable def mG(f:List Int->Int):List Int->V->V
 | [],y=>y
 | n::ns,_=>.int (f (n::ns))
theorem MX(h:ns≠[]):mG f ns y = .int (f ns):=by
 cases ns with
 | nil=>exact absurd rfl h
 | cons _ _=>rfl
def uC(K:XW)(f:List Int->Int)(te td:TE):TE:=λσ H Q=>te σ H λx H1=>td σ H1 λy H2=>∃ a ns,x = .ref a/\ai K H2 a (ns.map V.int)/\Q (mG f ns y) H2
theorem DH{X:Cx}{e d:abD}{te td:TE}{p pos kp:Pos}{nx:String}{f:List Int->Int}{op:CmpOp}{id:String}(nm:(toString nx++toString ".loop" : String)=id)(e1:ab8 table id=some (xC.1 nx op))(e2:ae2 id=true)(k0:ae1 nx=none)(k1:ae2 nx=true)(k2:ab8 table nx=some (Dw.1 nx))(k3:∀ a d:X7,adj nx ⟨[a],[("default",d)]⟩)(kb:YO nx=some (.builtin nx))(kn:ZI nx≠ZI "__name__")(kd:(ZI nx == ZI "__debug__")=false)
 (kc:∀ (A:ZP) (xs:Array (Int × Tok)),∃ bt,CmpOf X.prog X.w A op (λi v=>(ZS xs)[i]?=some v) bt/\∀ ns:List Int,xs.toList.map (·.1)=ns->0<xs.size->adM xs (abR bt (xs.size-1))=f ns) (hc:X.calm=true) (hg:Gl X nx) (hm:X.mg nx=none) (he:PE X e te) (hd:PE X d td)
 (hs:Yv [e] X.env=(false,eval e X.env)::Yv [] X.env:=by rfl) (hq:ZZ pos (Yv [e] X.env)=(false,eval e X.env)::ZZ pos (Yv [] X.env):=by rfl) :
 PE X (.Call (.Name nx p) [e] [⟨some "default",d,kp⟩] pos) (uC X.K f te td):=by
 intro pins s σ H Q I h;refine ZA (ft I hg hm kb ?_ kn (hd:=kd));refine callWith_kw (aB ((ae he ag hs) pos pins s σ H (DG λx H1=>td σ H1 λy H2=>∃ (a:Ye) (ns:List Int),x = .ref a/\ai X.K H2 a (ns.map V.int)/\Q (mG f ns y) H2) I h) λus s1 ⟨vs,H1,I1,r,q⟩=>?_) hq (by rw[hs];rfl)
 .obtain⟨x,rfl,q⟩:=MW q;obtain⟨u,rfl,ru⟩:=vals1 r;refine kws_cons (aB (hd pins s1 σ H1 _ I1 q) λw s2 ⟨y,H2,I2,ry,a,ns,ex,hS,q1⟩=>kws_nil ?_);subst ex;cases ru;obtain⟨aq,rv,hp,_⟩:=I2.list hS;obtain⟨xs,k7,DI⟩:=qx rv;obtain⟨o,n,ho,bh,_,hdt⟩:=hp;have hl:s2.heap.IsList a (ZS xs):=⟨o,ho,bh,n,by rw[hdt,k7]⟩
  have len:xs.size=ns.length:=by rw[<- DI,XY];simp
  show Yr _ X.A (call (.builtin nx) [.ref a] [("default",w)]) _ _ s2;obtain⟨bt,MY,MZ⟩:=kc X.A.in1 xs;refine MU nm e1 e2 k0 k1 k2 k3 MY (I2.ok.hd hc) hl (λhz h' tk hk=>⟨y,H2,I2.kept hk,ry,?_⟩) λhp v h' tk hv hk=>⟨.int (f ns),H2,I2.kept hk,?_,?_⟩
  .have z:ns=[]:=ZY.mp (by walk_at "o");rw[z] at q1;exact q1
  .obtain⟨t,rfl⟩:=acK hv;exact⟨t,by rw[MZ _ DI hp]⟩
  .rw[MX (λz=>by subst z;rw[aaK] at len;lia)] at q1;exact q1
theorem M0(a d:X7):adj "max" ⟨[a],[("default",d)]⟩:=by unfold adj;kernel_rfl
theorem M4{X:Cx}{e d:abD}{te td:TE}{p pos kp:Pos}(hc:X.calm=true)(hg:Gl X "max")(hm:X.mg "max" = none)(he:PE X e te)(hd:PE X d td)
 (hs:Yv [e] X.env=(false,eval e X.env)::Yv [] X.env:=by rfl) (hq:ZZ pos (Yv [e] X.env)=(false,eval e X.env)::ZZ pos (Yv [] X.env):=by rfl) :
 PE X (.Call (.Name "max" p) [e] [⟨some "default",d,kp⟩] pos) (uC X.K jn te td) :=
 DH (by decide) PySem.F.entry_max_loop PySem.F.plain_max_loop PySem.F.kind_max PySem.F.plain_max PySem.F.entry_max M0 ur (by decide) (by decide) (λ_ xs=>⟨_,CmpOf.ints_gt (adM xs) (λ_ _=>acK),λ_ e h=>DE e h⟩) hc hg hm he hd hs hq
theorem M5(hc:X.calm=true):fu X (.builtin "max") (λxs H Q=>∃ a ns,xs=[.ref a]/\ai X.K H a (ns.map V.int)/\ns≠[]/\Q (.int (jn ns)) H):=by
 intro pins s σ H xs us Q I r h;obtain⟨a,ns,rfl,hS,a7,q⟩:=h;obtain⟨u,rfl,ru⟩:=vals1 r;cases ru;obtain⟨aq,rv,hp,_⟩:=I.list hS;obtain⟨xs,e1,e2⟩:=qx rv;obtain⟨o,n,ho,bh,_,hdt⟩:=hp;have hl:s.heap.IsList a (ZS xs):=⟨o,ho,bh,n,by rw[hdt,e1]⟩
 have len:xs.size=ns.length:=by rw[<- e2,XY];simp
 have qy:0<xs.size:=by rw[len];exact adN.mpr a7
 refine max_intList (I.ok.hd hc) hl qy λv h' tk hv hk=>⟨.int (jn ns),H,I.kept hk,?_,q⟩
 obtain⟨t,rfl⟩:=acK hv;exact⟨t,by rw[DE e2 qy]⟩
theorem M6(a d:X7):adj "min" ⟨[a],[("default",d)]⟩:=by unfold adj;kernel_rfl
theorem M7{X:Cx}{e d:abD}{te td:TE}{p pos kp:Pos}(hc:X.calm=true)(hg:Gl X "min")(hm:X.mg "min" = none)(he:PE X e te)(hd:PE X d td)
 (hs:Yv [e] X.env=(false,eval e X.env)::Yv [] X.env:=by rfl) (hq:ZZ pos (Yv [e] X.env)=(false,eval e X.env)::ZZ pos (Yv [] X.env):=by rfl) :
 PE X (.Call (.Name "min" p) [e] [⟨some "default",d,kp⟩] pos) (uC X.K jZ te td) :=
 DH (by decide) abk aaa aeJ aes aet M6 jV (by decide) (by decide) (λ_ xs=>⟨_,CmpOf.ints_lt (adM xs) (λ_ _=>acK),λ_ e h=>DF e h⟩) hc hg hm he hd hs hq
theorem M8(hc:X.calm=true):fu X (.builtin "min") (λxs H Q=>∃ a ns,xs=[.ref a]/\ai X.K H a (ns.map V.int)/\ns≠[]/\Q (.int (jZ ns)) H):=by
 intro pins s σ H xs us Q I r h;obtain⟨a,ns,rfl,hS,a7,q⟩:=h;obtain⟨u,rfl,ru⟩:=vals1 r;cases ru;obtain⟨aq,rv,hp,_⟩:=I.list hS;obtain⟨xs,e1,e2⟩:=qx rv;obtain⟨o,n,ho,bh,_,hdt⟩:=hp;have hl:s.heap.IsList a (ZS xs):=⟨o,ho,bh,n,by rw[hdt,e1]⟩
 have len:xs.size=ns.length:=by rw[<- e2,XY];simp
 have qy:0<xs.size:=by rw[len];exact adN.mpr a7
 refine min_intList (I.ok.hd hc) hl qy λv h' tk hv hk=>⟨.int (jZ ns),H,I.kept hk,?_,q⟩
 obtain⟨t,rfl⟩:=acK hv;exact⟨t,by rw[DF e2 qy]⟩
end
section
theorem DJ{ch:List Ye}(I:Inv X pins σ H s)(k:∀ b o,b∉ch->s.heap.get? b=some o->h'.get? b=some o)(hf:∀ b∈ch,cV X pins H b){H':Hp}(up:∀ b u,H b=some u->H' b=some u):∀ b u,H b=some u->bK X.prog X.w H' h' b u:=by
 have kP:∀ b u,H b=some u->b∉ch:=λb u e z=>by rw[(hf b z).1] at e;cases e
 intro b u e;refine (I.az b u e).cK (λc v hc q=>k c v ?_ q) (λc q=>up c _ q) λc xs q=>up c _ q;rcases hc with z|z
 .rw[z];exact kP b u e
 .exact kP c _ z
theorem DK{t':Nat}{ch:List Ye}(I:Inv X pins σ H s)(k:∀ b o,b∉ch->s.heap.get? b=some o->h'.get? b=some o)(hf:∀ b∈ch,cV X pins H b):Inv X pins σ H { s with heap:=h',toks:=t' }:=by
 refine I.step (g':=s.gens) (d':=s.drawn) (ch:=ch) (λb hb=>?_) (λb o _ _ hc e _=>k b o hc e) (λb o _ _ hc e _=>⟨o.slots,k b o hc e⟩) (λ_ _ _ _ n=>n)
  (λb o hc e=>⟨o,k b o hc e⟩) (λ_ _ e=>e) (λ_ _ _ e=>e) (λb ps e=>⟨#[],by rw[e];simp⟩) (λm hm=>?_) (λb u e=>DJ I k hf (λ_ _ q=>q) b u e) I.bare
 .obtain⟨_,d1,d2,d3,d4,d5⟩:=hf b hb;exact⟨d3,d1,d4,d5⟩
 .obtain⟨o,es,ep,ho,r⟩:=hm;exact⟨o,es,ep,k _ o (λz=>(hf _ z).2.1 rfl) ho,r⟩
theorem DL{t':Nat}{ch:List Ye}{T:Ye}{o:HO}(I:Inv X pins σ H s)(k:∀ b o,b∉ch->s.heap.get? b=some o->h'.get? b=some o)(hf:∀ b∈ch,cV X pins H b)(hT:s.heap.objs.size<=T)
 (new:bK X.prog X.w (upd H T o) h' T o):Inv X pins σ (upd H T o) { s with heap:=h',toks:=t' }:=by
 have hn:=I.az.fresh hT;have neT:∀ b u,s.heap.get? b=some u->b≠T:=λb u e=>Yk (Yp (X4 e) hT);have jY:∀ b u,H b=some u->b≠T:=λb u e=>ie e hn;have up:∀ b u,H b=some u->upd H T o b=some u:=λb u e=>by rw[aG (jY b u e)];exact e
 refine I.step (g':=s.gens) (d':=s.drawn) (ch:=ch) (λb hb=>?_) (λb o _ _ hc e _=>k b o hc e) (λb o _ _ hc e _=>⟨o.slots,k b o hc e⟩) (λb u _ e n=>by rw[aG (neT b u e)];exact n)
  (λb o hc e=>⟨o,k b o hc e⟩) (λb xs e=>up b _ e) (λb _ _ e=>up b _ e) (λb ps e=>⟨#[],by rw[up b _ e];simp⟩) (λm hm=>?_) (λb u e=>?_) I.bare
 .obtain⟨_,d1,d2,d3,d4,d5⟩:=hf b hb;exact⟨d3,d1,d4,d5⟩
 .obtain⟨o,es,ep,ho,r⟩:=hm;exact⟨o,es,ep,k _ o (λz=>(hf _ z).2.1 rfl) ho,r⟩
 .by_cases hb:b=T
  .subst hb;rw[ar] at e;cases e;exact new
  .rw[aG hb] at e;exact DJ I k hf up b u e
end
noncomputable def uD(K:XW)(a:Ye)(n:Nat):It :=
 ⟨λi H=>∃ xs x,ai K H a xs/\xs.length=n/\xs.reverse[i]?=some x,λi H x H'=>H'=H/\∀ xs,ai K H a xs->xs.length=n->xs.reverse[i]?=some x,λi _=>i=n⟩
theorem M9{P:Y0}{w:Zw}{K:XW}{tg:abD}(a it:Ye)(n:Nat):Turn P w K tg (uD K a n) [it] it (λi h=>i<=n/\h.IsRevIter it a ((n:Int)-1-(i:Nat))) where
 mem:=by simp
 obj:=λi h st b hb=>by
  have e:b=it:=by simpa using hb
  subst e;obtain⟨_,o,e,c,d⟩:=st;exact⟨o,e,λv z=>by rw[d] at z;cases z⟩
 keep:=λi h h' st k=>⟨st.1,st.2.at λo e=>k it (by simp) o e⟩
 item:=by
  intro X hP hw hK hc i pins s σ H E I hf st hg;subst hP hw hK;obtain⟨xs,x,hq,hn,hx⟩:=hg;obtain⟨aq,rv,p,hz⟩:=I.list hq;have hl:=rv.length;have hi:i<n:=by have:=(X6.mp hx).1;rw[ZJ] at this;lia
  have dS:xs[n-1-i]?=some x:=by rw[aag (by lia),hn] at hx;exact hx
  obtain⟨u,hu,ru⟩:=rv.get dS;obtain⟨f0,f1,f2,f3,f4,f5⟩:=hf it (by simp);have cL:=st.2;rw[show (n:Int)-1-(i:Nat)=((n-1-i:Nat):Int) by lia] at cL;refine wpAny_pyNext_rev_item cL p.isList (x:=u) (by simpa using hu) λh' cL sb=>?_;have I1:Inv X pins σ H { s with heap:=h' }:=I.turned (t':=s.toks) (λb o hb e=>(sb.2 b hb).trans e) f0 f1 f3 f4 f5;obtain⟨o,e,c,d⟩:=id cL;rw[show ((n-1-i:Nat):Int)-1=(n:Int)-1-((i+1:Nat):Int) by lia] at cL;exact⟨u,rfl,nQ (s:={ s with heap:=h' }) e c d (by decide) ⟨x,H,I1,ru,⟨rfl,λys hy _=>by rw[I.pS hy hq];exact hx⟩,⟨by lia,cL⟩,λb hb=>(hf b hb).1⟩⟩
 done:=by
  intro X hP hw hK hc i pins s σ H E I hf st hg;subst hP hw hK;have Na:i=n:=hg;subst Na;obtain⟨f0,f1,f2,f3,f4,f5⟩:=hf it (by simp);have cL:=st.2;rw[show (i:Int)-1-(i:Nat) = -1 by lia] at cL;exact wpAny_pyNext_rev_end (I.ok.hd hc) cL λh' eb=>⟨rfl,I.turned (t':=s.toks) (λb o hb e=>eb b o hb e) f0 f1 f3 f4 f5⟩
 self:=λ_ _ _ _ _ st h=>adA st.2 h
def xF(K:XW)(ta:TA):TI:=λσ H R=>ta σ H λvs H1=>∃ a xs,vs=[.ref a]/\ai K H1 a xs/\R (uD K a xs.length) H1
theorem Nb(hg:Gl X "reversed")(hm:X.mg "reversed" = none)(ha:PA X [e] ta)(hs:Yv [e] X.env=[(false,eval e X.env)]:=by rfl):PI X tg (.Call (.Name "reversed" p) [e] [] pos) (xF X.K ta):=by
 intro pins s σ H R I h;refine afY (ft I hg hm Me (YL (aB (ha pos pins s σ H _ I h) λus s1 zq=>?_) hs rfl));obtain⟨vs,H1,I1,r1,q1⟩:=zq;obtain⟨a,xs,rfl,hq,q⟩:=q1;obtain⟨u,rfl,ru⟩:=vals1 r1;cases ru;obtain⟨aq,rv,p,hz⟩:=I1.list hq;refine call_reversed_list p.isList ?_;have hl:=rv.length;refine adA (i:=(aq.toArray.size:Int)-1) (l:=a) ⟨_,Ya _ rfl,rfl,rfl⟩ ?_;refine⟨s1.heap.objs.size,[s1.heap.objs.size],_,_,H1,rfl,I1.kept (t':=s1.toks) λb o e=>X2 _ e,M9 a _ xs.length,⟨YB _,_,Ya _ rfl,rfl,?_⟩,λb hb=>?_,q⟩
 .rw[Yg,<- hl];simp;rfl
 .have e:b=s1.heap.objs.size:=by simpa using hb
  subst e;exact I1.gE (X9 _) (I1.az.fresh (X9 _))
noncomputable def uE(K:XW)(a:Ye):It :=
 ⟨λi H=>∃ xs x,ai K H a xs/\xs[i]?=some x,λi H v H'=>∃ (p:Ye) (x:V),v = .ref p/\H p=none/\H'=upd H p (.tup [.int i,x])/\∀ xs,ai K H a xs->xs[i]?=some x,λi H=>∃ xs,ai K H a xs/\xs.length<=i⟩
theorem xG:2<=Yt:=by decide
theorem Nc{P:Y0}{w:Zw}{K:XW}{es:List abD}{k:Nat}{tp:Pos}(a e it:Ye)(DM:e≠it):Turn P w K (.Tuple es k tp) (uE K a) [e,it] e (λi h=>(∃ old,IsEnum h e it (i:Nat) old)/\h.IsListIter it a i) where
 mem:=by simp
 obj:=λi h st b hb=>by
  obtain⟨⟨old,he⟩,o,ho,c,d⟩:=st;have b8:b=e∨b=it:=by simpa using hb
  rcases b8 with rfl|rfl
  .exact⟨_,he,λv z=>by
    have z':Data.fields _=Data.cell v:=z;cases z'⟩
  .exact⟨o,ho,λv z=>by rw[d] at z;cases z⟩
 keep:=λi h h' st kk=>by obtain⟨⟨old,he⟩,hi⟩:=st;exact⟨⟨old,kk e (by simp) _ he⟩,hi.at λo e=>kk it (by simp) o e⟩
 item:=by
  intro X hP hw hK hc i pins s σ H E I hf st hg;subst hP hw hK;obtain⟨xs,x,hq,hx⟩:=hg;obtain⟨⟨old,he⟩,hit⟩:=st;obtain⟨aq,rv,p,hz⟩:=I.list hq;obtain⟨u,hu,ru⟩:=rv.get hx;refine ac0 he hit p.isList (x:=u) (by simpa using hu) DM λh1 ho Nd hT hsz hk=>?_;refine⟨_,rfl,wpAny_letOwnedTupleGo_enum ho λh2 DN cM=>?_⟩;have xH:Heap.SameBut e h1 h2:=cM;have neT:s.heap.objs.size≠e:=Y7 (X4 he);have up:∀ b o,b∉[e,it]->s.heap.get? b=some o->h2.get? b=some o:=λb o hb q=>by
   have b8:b≠e/\b≠it:=by simpa using hb
   exact xH.extBut b o b8.1 (hk b o b8.1 b8.2 q)
  have hn:H s.heap.objs.size=none:=I.az.fresh (X9 _);refine⟨.ref s.heap.objs.size,upd H s.heap.objs.size (.tup [.int i,x]),DL (s:=s) (h':=h2) (t':=s.toks+1) I up hf (X9 _) ⟨xG,[.int i s.toks,u],.cons ⟨_,rfl⟩ (.cons ru .nil),?_⟩,rfl,⟨_,x,rfl,hn,rfl,λys hy=>by rw[I.pS hy hq];exact hx⟩,⟨⟨u,?_⟩,?_⟩,λb hb=>?_⟩
  .have:=xH.extBut _ _ neT hT;exact⟨_,this,rfl,_,rfl⟩
  .have:((i:Int)+1)=((i+1:Nat):Int):=by lia
   rw[<- this];exact DN
  .exact Nd.at λo q=>xH.extBut _ _ (Y1 DM) q
  .rw[aG]
   .exact (hf b hb).1
   .have b8:b=e∨b=it:=by simpa using hb
    rcases b8 with rfl|rfl
    .exact Y1 neT
    .obtain⟨o,q,_⟩:=hit;exact Yk (X4 q)
 done:=by
  intro X hP hw hK hc i pins s σ H E I hf st hg;subst hP hw hK;obtain⟨xs,hq,hx⟩:=hg;obtain⟨⟨old,he⟩,hit⟩:=st;obtain⟨aq,rv,p,hz⟩:=I.list hq;have hl:=rv.length;refine adk (I.ok.hd hc) he hit p.isList (by simp;lia) λh' eb=>⟨rfl,DK (t':=s.toks) I (λb o hb q=>?_) hf⟩
  have b8:b≠e/\b≠it:=by simpa using hb
  exact eb b o b8.2 q
 self:=λ_ i s Q E st h=>by obtain⟨⟨old,he⟩,_⟩:=st;exact acv he h
def xI(K:XW)(ta:TA):TI:=λσ H R=>ta σ H λvs H1=>∃ a,vs=[.ref a]/\(∃ xs,ai K H1 a xs)/\R (uE K a) H1
theorem xJ(hg:Gl X "enumerate")(hm:X.mg "enumerate" = none)(ha:PA X [e] ta)(hs:Yv [e] X.env=[(false,eval e X.env)]:=by rfl):PI X (.Tuple es k tp) (.Call (.Name "enumerate" p) [e] [] pos) (xI X.K ta):=by
 intro pins s σ H R I h;refine afY (ft I hg hm C7 (YL (aB (ha pos pins s σ H _ I h) λus s1 zq=>?_) hs rfl));obtain⟨vs,H1,I1,r1,q1⟩:=zq;obtain⟨a,rfl,⟨xs,hq⟩,q⟩:=q1;obtain⟨u,rfl,ru⟩:=vals1 r1;cases ru;obtain⟨aq,rv,p,hz⟩:=I1.list hq;refine adO p.isList λh' he hit hsz hk=>?_;refine acv he ?_;have I2:Inv X pins σ H1 { s1 with heap:=h' }:=I1.kept (t':=s1.toks) hk;refine⟨s1.heap.objs.size+1,[s1.heap.objs.size+1,s1.heap.objs.size],_,_,H1,rfl,I2,Nc a _ _ (by walk_at "o"),⟨⟨.none,he⟩,hit⟩,λb hb=>?_,q⟩;have b8:b=s1.heap.objs.size+1∨b=s1.heap.objs.size:=by simpa using hb
 rcases b8 with rfl|rfl
 .exact I1.gE (abO _) (I1.az.fresh (abO _))
 .exact I1.gE (X9 _) (I1.az.fresh (X9 _))
noncomputable def qz(K:XW)(a b:Ye):It :=
 ⟨λi H=>∃ xs ys x y,ai K H a xs/\ai K H b ys/\xs[i]?=some x/\ys[i]?=some y,λi H v H'=>∃ (p:Ye) (x y:V),v = .ref p/\H p=none/\H'=upd H p (.tup [x,y])/\(∀ xs,ai K H a xs->xs[i]?=some x)/\∀ ys,ai K H b ys->ys[i]?=some y,
  λi H=>∃ xs ys,ai K H a xs/\ai K H b ys/\(xs.length<=i∨ys.length<=i)⟩
theorem Nf{P:Y0}{w:Zw}{K:XW}{es:List abD}{k:Nat}{tp:Pos}(a b z TI TO i1 i2:Ye)(D:ZipApart z TI TO i1 i2 a b):Turn P w K (.Tuple es k tp) (qz K a b) [z,TI,TO,i1,i2] z
 (λi h=>IsZip h z TI TO .none/\IsPair h TI (.ref i1) (.ref i2)/\(∃ a b,IsPair h TO a b)/\h.IsListIter i1 a i/\h.IsListIter i2 b i) where
 mem:=by simp
 obj:=λi h st c hc=>by
  obtain⟨hz,iy,⟨ta,tb,jo⟩,⟨o1,h1,c1,d1⟩,⟨o2,h2,c2,d2⟩⟩:=st;have jL:c=z∨c=TI∨c=TO∨c=i1∨c=i2:=by simpa using hc
  rcases jL with rfl|rfl|rfl|rfl|rfl
  .exact⟨_,hz,λv q=>by
    have q':Data.fields _=Data.cell v:=q;cases q'⟩
  .exact⟨_,iy,λv q=>by
    have q':Data.seq _ _=Data.cell v:=q;cases q'⟩
  .exact⟨_,jo,λv q=>by
    have q':Data.seq _ _=Data.cell v:=q;cases q'⟩
  .exact⟨o1,h1,λv q=>by rw[d1] at q;cases q⟩
  .exact⟨o2,h2,λv q=>by rw[d2] at q;cases q⟩
 keep:=λi h h' st kk=>by obtain⟨hz,iy,⟨ta,tb,jo⟩,h1,h2⟩:=st;exact⟨kk z (by simp) _ hz,kk TI (by simp) _ iy,⟨ta,tb,kk TO (by simp) _ jo⟩,h1.at λo e=>kk i1 (by simp) o e,h2.at λo e=>kk i2 (by simp) o e⟩
 item:=by
  intro X hP hw hK hc i pins s σ H E I hf st hg;subst hP hw hK;obtain⟨xs,ys,x,y,hqx,hqy,hx,hy⟩:=hg;obtain⟨hz,iy,⟨ta,tb,jo⟩,h1,h2⟩:=st;obtain⟨aq,rv,p1,_⟩:=I.list hqx;obtain⟨jts,uF,p2,_⟩:=I.list hqy;obtain⟨u,hu,ru⟩:=rv.get hx;obtain⟨v,hv,Ng⟩:=uF.get hy;refine wpAny_pyNext_zip_item D hz iy jo h1 h2 p1.isList p2.isList (x:=u) (y:=v) (by simpa using hu) (by simpa using hv) λh' z1 t1 l1 l2 pT hsz hk=>?_;refine⟨_,rfl,wpAny_letOwnedTupleGo_zip z1 λh3 z3 Nh=>?_⟩;have oi:Heap.SameBut z h' h3:=Nh;have neT:s.heap.objs.size≠z:=Y7 (X4 hz);have up:∀ b o,b∉[z,TI,TO,i1,i2]->s.heap.get? b=some o->h3.get? b=some o:=λb o hb q=>by
   have b8:b≠z/\b≠TI/\b≠TO/\b≠i1/\b≠i2:=by simpa using hb
   exact oi.extBut b o b8.1 (hk b o b8.1 b8.2.2.1 b8.2.2.2.1 b8.2.2.2.2 q)
  have hn:H s.heap.objs.size=none:=I.az.fresh (X9 _);refine⟨.ref s.heap.objs.size,upd H s.heap.objs.size (.tup [x,y]),DL (s:=s) (h':=h3) (t':=s.toks) I up hf (X9 _) ⟨xG,[u,v],.cons ru (.cons Ng .nil),?_⟩,rfl,⟨_,x,y,rfl,hn,rfl,λzs xK=>by rw[I.pS xK hqx];exact hx,λzs xK=>by rw[I.pS xK hqy];exact hy⟩,
   ⟨z3,oi.extBut _ _ D.TIz (hk _ _ D.TIz D.TITO D.TIi1 D.TIi2 iy),⟨_,_,oi.extBut _ _ D.TOz t1⟩,l1.at λo q=>oi.extBut _ _ D.i1z q,l2.at λo q=>oi.extBut _ _ D.i2z q⟩,λb hb=>?_⟩
  .have:=oi.extBut _ _ neT pT;exact⟨_,this,rfl,_,rfl⟩
  .rw[aG]
   .exact (hf b hb).1
   .have b8:b=z∨b=TI∨b=TO∨b=i1∨b=i2:=by simpa using hb
    rcases b8 with rfl|rfl|rfl|rfl|rfl
    .exact Y1 neT
    .exact Yk (X4 iy)
    .exact Yk (X4 jo)
    .obtain⟨o,q,_⟩:=h1;exact Yk (X4 q)
    .obtain⟨o,q,_⟩:=h2;exact Yk (X4 q)
 done:=by
  intro X hP hw hK hc i pins s σ H E I hf st hg;subst hP hw hK;obtain⟨xs,ys,hqx,hqy,hx⟩:=hg;obtain⟨hz,iy,⟨ta,tb,jo⟩,h1,h2⟩:=st;obtain⟨aq,rv,p1,_⟩:=I.list hqx;obtain⟨jts,uF,p2,_⟩:=I.list hqy;have l1:=rv.length;have l2:=uF.length;refine wpAny_pyNext_zip_end (I.ok.hd hc) D hz iy jo h1 h2 p1.isList p2.isList (hx.imp (λq=>by simp;lia) λq=>by simp;lia) λh' hk=>⟨rfl,DK (t':=s.toks) I (λb o hb q=>?_) hf⟩
  have b8:b≠z/\b≠TI/\b≠TO/\b≠i1/\b≠i2:=by simpa using hb
  exact hk b o b8.1 b8.2.2.1 b8.2.2.2.1 b8.2.2.2.2 q
 self:=λ_ i s Q E st h=>aeK st.1 h
def xM(K:XW)(ta:TA):TI:=λσ H R=>ta σ H λvs H1=>∃ a b,vs=[.ref a,.ref b]/\(∃ xs,ai K H1 a xs)/\(∃ ys,ai K H1 b ys)/\R (qz K a b) H1
theorem DO(hg:Gl X "zip")(hm:X.mg "zip" = none)(ha:PA X [e,f] ta)(hs:Yv [e,f] X.env=(false,eval e X.env)::Yv [f] X.env:=by rfl)(cM:Yv [f] X.env=[(false,eval f X.env)]:=by rfl):PI X (.Tuple es k tp) (.Call (.Name "zip" p) [e,f] [] pos) (xM X.K ta):=by
 intro pins s σ H R I h;refine afY (ft I hg hm Md (YL (aB (ha pos pins s σ H _ I h) λus s1 ⟨vs,H1,I1,r1,q1⟩=>?_) hs (by rw[cM];rfl)));obtain⟨a,b,rfl,⟨xs,hqx⟩,⟨ys,hqy⟩,q⟩:=q1;obtain⟨u,v,rfl,ru,Ni⟩:=vals2 r1;cases ru;cases Ni;obtain⟨aq,rv,p1,_⟩:=I1.list hqx;obtain⟨jts,uF,p2,_⟩:=I1.list hqy;have a1:a<s1.heap.objs.size:=by obtain⟨_,e,_⟩:=p1.isList;exact X4 e
 have a2:b<s1.heap.objs.size:=by obtain⟨_,e,_⟩:=p2.isList;exact X4 e
 refine call_zip_2 p1.isList p2.isList λh' hz iy jo h1 h2 hsz hk=>?_;refine aeK hz ?_;have I2:Inv X pins σ H1 { s1 with heap:=h' }:=I1.kept (t':=s1.toks) hk;refine⟨s1.heap.objs.size+4,[s1.heap.objs.size+4,s1.heap.objs.size+2,s1.heap.objs.size+3,s1.heap.objs.size,s1.heap.objs.size+1],_,_,H1,rfl,I2,Nf a b _ _ _ _ _ (zipApart_new a1 a2),⟨hz,iy,⟨_,_,jo⟩,h1,h2⟩,λc hc=>?_,q⟩;have jL:s1.heap.objs.size<=c:=by simp only[Yi,aa2,or_false] at hc;walk_at "o"
 exact I1.gE jL (I1.az.fresh jL)
section
theorem DP(hc:X.calm=true):fu X (.builtin "sum") (λxs H Q=>∃ (a:Ye) (ns:List Int),xs=[.ref a]/\ai X.K H a (ns.map V.int)/\Q (.int ns.sum) H):=by
 intro pins s σ H xs us Q I r h;obtain⟨a,ns,rfl,hS,q⟩:=h;obtain⟨u,rfl,ru⟩:=vals1 r;cases ru;obtain⟨aq,rv,hp,_⟩:=I.list hS;obtain⟨xs,e1,e2⟩:=qx rv;obtain⟨o,n,ho,bh,_,hdt⟩:=hp;have hl:s.heap.IsList a (ZS xs):=⟨o,ho,bh,n,by rw[hdt,e1]⟩
 refine sum_intListG (I.ok.hd hc) hl λh' tk t' hk=>⟨.int ns.sum,H,I.kept hk,⟨t',?_⟩,q⟩
 rw[preSum_eq,ac1 (by simp),e2]
theorem xN:∀ {bs:List Bool} {aq:List X7},Vals (bs.map V.bl) aq->aq=bs.map ZE
 | [],aq,r=>by cases r;rfl
 | b::bs,aq,r=>by
  cases r with
  | cons r1 r2 =>
   cases r1;rw[xN r2];rfl
theorem Nj(hc:X.calm=true):fu X (.builtin "all") (λxs H Q=>∃ (a:Ye) (bs:List Bool),xs=[.ref a]/\ai X.K H a (bs.map V.bl)/\Q (.bl (bs.all id)) H):=by
 intro pins s σ H xs us Q I r h;obtain⟨a,bs,rfl,hS,q⟩:=h;obtain⟨u,rfl,ru⟩:=vals1 r;cases ru;obtain⟨aq,rv,hp,_⟩:=I.list hS;have e:=xN rv;subst e;have hl:=hp.isList;have aS:a<s.heap.objs.size:=by obtain⟨_,e,_⟩:=hl;exact X4 e
 refine call_all_walk (abn hl ?_);refine⟨s.heap.objs.size,[s.heap.objs.size,a],[s.heap.objs.size],(bs.map ZE).toArray.size,_,_,λi=>(bs[i]?).getD true,rfl,Walks.list (A:=X.A.in1) (I.ok.hd hc) _ a (Yk aS) (bs.map ZE).toArray,⟨⟨_,Ya _ rfl,rfl,rfl⟩,hl.push _⟩,λi v s' Q' E' hP hQ=>?_,λh' tk hk=>?_⟩
 .have j4:(bs[i]?).map ZE=some v:=by simpa using hP
  cases e:bs[i]? with
  | none=>rw[e] at j4;cases j4
  | some b =>
   rw[e] at j4;cases j4;simp only[e,aa3] at hQ;exact YR hQ
 .have e:((Yn (bs.map ZE).toArray.size).all λi=>(bs[i]?).getD true)=bs.all id:=by rw[Yg,XY];exact PyProof.Rows.LSm.range_all bs
  rw[e];exact⟨.bl (bs.all id),H,I.kept (λb o q=>hk b o (λz=>by
   have:b=s.heap.objs.size:=by simpa using z
   rw[this] at q;exact Zk _ (X4 q)) (X2 _ q)),rfl,q⟩
theorem xO(hc:X.calm=true):fu X (.builtin "any") (λxs H Q=>∃ (a:Ye) (bs:List Bool),xs=[.ref a]/\ai X.K H a (bs.map V.bl)/\Q (.bl (bs.any id)) H):=by
 intro pins s σ H xs us Q I r h;obtain⟨a,bs,rfl,hS,q⟩:=h;obtain⟨u,rfl,ru⟩:=vals1 r;cases ru;obtain⟨aq,rv,hp,_⟩:=I.list hS;have e:=xN rv;subst e;have hl:=hp.isList;have aS:a<s.heap.objs.size:=by obtain⟨_,e,_⟩:=hl;exact X4 e
 refine call_any_walk (abn hl ?_);refine⟨s.heap.objs.size,[s.heap.objs.size,a],[s.heap.objs.size],(bs.map ZE).toArray.size,_,_,λi=>(bs[i]?).getD false,rfl,Walks.list (A:=X.A.in1) (I.ok.hd hc) _ a (Yk aS) (bs.map ZE).toArray,⟨⟨_,Ya _ rfl,rfl,rfl⟩,hl.push _⟩,λi v s' Q' E' hP hQ=>?_,λh' tk hk=>?_⟩
 .have j4:(bs[i]?).map ZE=some v:=by simpa using hP
  cases e:bs[i]? with
  | none=>rw[e] at j4;cases j4
  | some b =>
   rw[e] at j4;cases j4;simp only[e,aa3] at hQ;exact YR hQ
 .have e:((Yn (bs.map ZE).toArray.size).any λi=>(bs[i]?).getD false)=bs.any id:=by rw[Yg,XY];exact PyProof.Rows.LSm.range_any bs
  rw[e];exact⟨.bl (bs.any id),H,I.kept (λb o q=>hk b o (λz=>by
   have:b=s.heap.objs.size:=by simpa using z
   rw[this] at q;exact Zk _ (X4 q)) (X2 _ q)),rfl,q⟩
end
section
variable{K:XW}{g:TG}{tb:TS}{D:Ends}{σ:L2.St}{H:Hp}{a b:Ye}{xs ys:List V}
theorem Nk{ta:TA}:i3 (xF K ta) g tb D σ H=ta σ H (λvs H1=>∃ a xs,vs=[.ref a]/\ai K H1 a xs/\FJ (uD K a xs.length) g tb D σ H1):=rfl
theorem Nl{ta:TA}:i3 (xI K ta) g tb D σ H=ta σ H (λvs H1=>∃ a,vs=[.ref a]/\(∃ xs,ai K H1 a xs)/\FJ (uE K a) g tb D σ H1):=rfl
theorem Nm{ta:TA}:i3 (xM K ta) g tb D σ H=ta σ H (λvs H1=>∃ a b,vs=[.ref a,.ref b]/\(∃ xs,ai K H1 a xs)/\(∃ ys,ai K H1 b ys)/\FJ (qz K a b) g tb D σ H1):=rfl
theorem xP(Pv:Nat->L2.St->Hp->Prop)(h0:Pv 0 σ H)(hl:∀ i σ H,i<=xs.length->Pv i σ H->ai K H a xs)(hs:∀ i x σ H p,xs[i]?=some x->Pv i σ H->H p=none->g (.ref p) σ (upd H p (.tup [.int i,x])) λσ2 H2=>tb { D with nx:=Pv (i+1),ct:=Pv (i+1),bk:=D.nx } σ2 H2)(hd:∀ σ H,Pv xs.length σ H->D.nx σ H):FJ (uE K a) g tb D σ H:=by
 refine⟨λi m σ H=>m=xs.length-i/\i<=xs.length/\Pv i σ H,⟨_,rfl,YB _,h0⟩,?_⟩;rintro i m σ H ⟨rfl,hi,p⟩;have q:=hl i σ H hi p;by_cases aS:i<xs.length
 .refine .inr ⟨⟨xs,xs[i],q,by simp[aS]⟩,Pv (i+1),λσ' H' p'=>⟨xs.length-(i+1),by lia,rfl,aS,p'⟩,λv H' y=>?_⟩;obtain⟨w,x,rfl,hw,rfl,y⟩:=y;exact hs i x σ _ w (y xs q) p hw
 .have e:i=xs.length:=by lia
  subst e;exact .inl ⟨⟨xs,q,X9 _⟩,hd σ H p⟩
theorem Nn(Pv:Nat->L2.St->Hp->Prop)(h0:Pv 0 σ H)(hl:∀ i σ H,Pv i σ H->ai K H a xs/\ai K H b ys)(hs:∀ i x y σ H p,xs[i]?=some x->ys[i]?=some y->Pv i σ H->H p=none->g (.ref p) σ (upd H p (.tup [x,y])) λσ2 H2=>tb { D with nx:=Pv (i+1),ct:=Pv (i+1),bk:=D.nx } σ2 H2)(hd:∀ σ H,Pv (min xs.length ys.length) σ H->D.nx σ H):FJ (qz K a b) g tb D σ H:=by
 refine⟨λi m σ H=>m=min xs.length ys.length-i/\i<=min xs.length ys.length/\Pv i σ H,⟨_,rfl,YB _,h0⟩,?_⟩;rintro i m σ H ⟨rfl,hi,p⟩;have q:=hl i σ H p;by_cases aS:i<min xs.length ys.length
 .have h1:i<xs.length:=by lia
  have h2:i<ys.length:=by lia
  refine .inr ⟨⟨xs,ys,xs[i],ys[i],q.1,q.2,by simp[h1],by simp[h2]⟩,Pv (i+1),λσ' H' p'=>⟨min xs.length ys.length-(i+1),by lia,rfl,aS,p'⟩,λv H' y=>?_⟩;obtain⟨w,x,y',rfl,hw,rfl,e1,e2⟩:=y;exact hs i x y' σ _ w (e1 xs q.1) (e2 ys q.2) p hw
 .have e:i=min xs.length ys.length:=by lia
  refine .inl ⟨⟨xs,ys,q.1,q.2,by lia⟩,hd σ H (e ▸ p)⟩
end
theorem mH{K:XW}{i j:Nat}{p:Ye}{x y:V}{σ:L2.St}{H:Hp}{Q:L2.St->Hp->Prop}(h:ah K H p [x,y])(q:Q ((σ.set i (some x)).set j (some y)) H):jO K 2 (cU (cg i) (cU (cg j) iZ)) (.ref p) σ H Q :=
 ⟨p,[x,y],rfl,h,rfl,x,[y],rfl,y,[],rfl,rfl,q⟩
section
variable{X:Cx}{K:XW}
def oj(Ok:Hp->Prop)(ρ:L2.St)(tt:TT)(te:TE):List (V × V)->List V->Hp->(List V->Hp->Prop)->Prop
 | [],zs,H,Q=>Ok H/\Q zs H
 | (x,y)::r,zs,H,Q=>Ok H/\∀ p,H p=none->tt (some x::some y::ρ) (upd H p (.tup [x,y])) λb H1=>if b=true then te (some x::some y::ρ) H1 λz H2=>oj Ok ρ tt te r (zs++[z]) H2 Q else oj Ok ρ tt te r zs H1 Q
theorem Np{os:List (Option V)}(h:os.length=2):∃ a b,os=[a,b]:=by
 match os,h with
 | [a,b],_=>exact⟨a,b,rfl⟩
theorem Nq(hn:(xs.zip ys).length<=Yt)(h:oj (λH=>ai K H a xs/\ai K H b ys) ρ tt te (xs.zip ys) [] H λzs H'=>∀ l,H' l=none->Q (.ref l) (upd H' l (.lst zs))) :
 jg 2 (qz K a b) (jO K 2 (cU (cg 0) (cU (cg 1) iZ))) ρ tt te H Q:=by
 have hlen:(xs.zip ys).length=min xs.length ys.length:=ae5;refine⟨λi m zs H=>m=(xs.zip ys).length-i/\i<=(xs.zip ys).length/\zs.length<=i/\oj (λH=>ai K H a xs/\ai K H b ys) ρ tt te ((xs.zip ys).drop i) zs H λzs H'=>∀ l,H' l=none->Q (.ref l) (upd H' l (.lst zs)),⟨_,rfl,YB _,X9 _,h⟩,?_⟩;rintro i m zs H ⟨rfl,hi,hy,g⟩;by_cases aS:i<(xs.zip ys).length
 .have e:=Y3 aS;have h1:i<xs.length:=by lia
  have h2:i<ys.length:=by lia
  have e2:(xs.zip ys)[i]=(xs[i],ys[i]):=List.getElem_zip;rw[e,e2] at g;obtain⟨⟨g0,uG⟩,g1⟩:=g;have l1:∀ y:V,(zs++[y]).length<=i+1:=λy=>by rw[Yh,Yx];lia
  have l2:zs.length<=i+1:=by lia
  refine .inr ⟨⟨xs,ys,xs[i],ys[i],g0,uG,by simp[h1],by simp[h2]⟩,by lia,λws H'=>ws.length<=i+1/\oj (λH=>ai K H a xs/\ai K H b ys) ρ tt te ((xs.zip ys).drop (i+1)) ws H' λzs H'=>∀ l,H' l=none->Q (.ref l) (upd H' l (.lst zs)),λzs H' q=>⟨_,by lia,rfl,aS,q.1,q.2⟩,λos mD v H' y=>?_⟩;obtain⟨p,x,y',rfl,hp,rfl,ex,ey⟩:=y;have ex:=ex xs g0;have ey:=ey ys uG;rw[X0 h1] at ex;rw[X0 h2] at ey;cases ex;cases ey;obtain⟨o1,o2,rfl⟩:=Np mD;refine mH (ah.of ar) ⟨[some xs[i],some ys[i]],rfl,rfl,?_⟩;simp only[l1,l2,true_and];exact g1 p hp
 .have e:i=(xs.zip ys).length:=by lia
  subst e;rw[acR] at g;obtain⟨⟨g0,uG⟩,g1⟩:=g;exact .inl ⟨⟨xs,ys,g0,uG,by lia⟩,by lia,g1⟩
end
mutual
inductive Dat(K:XW)(H:Hp):V->afs->Prop where
 | non:Dat K H .non .none
 | bl (b:Bool):Dat K H (.bl b) (.bool b)
 | int (i:Int):Dat K H (.int i) (.int i)
 | str (x:Str):Dat K H (.str x) (.str x)
 | tup {a:Ye} {xs:List V} {ds:List afs} (h:ah K H a xs) (r:qA K H xs ds):Dat K H (.ref a) (.tuple ds)
 | lst {a:Ye} {xs:List V} {ds:List afs} (h:ai K H a xs) (r:qA K H xs ds):Dat K H (.ref a) (.list ds)
inductive qA(K:XW)(H:Hp):List V->List afs->Prop where
 | nil:qA K H [] []
 | cons {x:V} {d:afs} {xs:List V} {ds:List afs} (h:Dat K H x d) (r:qA K H xs ds):qA K H (x::xs) (d::ds)
end
section
variable{X:Cx}{pins:List (Ye × Obj)}{σ:L2.St}{H:Hp}{s:Yd}
theorem Dat.reads(I:Inv X pins σ H s)(d:afs)(h:Dat X.K H v d):RelV v u->∃ as,Reads s.heap u d as:=by
 refine Dat.rec (motive_1:=λv d _=>∀ u,RelV v u->∃ as,Reads s.heap u d as) (motive_2:=λvs ds _=>∀ us,Vals vs us->∃ as,ReadsAll s.heap us ds as) ?_ ?_ ?_ ?_ ?_ ?_ ?_ ?_ h u
 .intro u r;cases r;exact⟨_,.none⟩
 .intro b u r;cases r;exact⟨_,.bool b⟩
 .rintro i u ⟨t,rfl⟩;exact⟨_,.int i t⟩
 .rintro x u ⟨t,rfl⟩;exact⟨_,.str x t⟩
 .intro a xs ds h q ih u r;cases r;obtain⟨aq,rv,⟨o,ho,hc,n,hd⟩,_⟩:=I.tuple h;obtain⟨as,ra⟩:=ih aq rv;exact⟨_,.tuple ho hc hd (by simpa using ra)⟩
 .intro a xs ds h q ih u r;cases r;obtain⟨aq,rv,⟨o,n,ho,hc,_,hd⟩,_⟩:=I.list h;obtain⟨as,ra⟩:=ih aq rv;exact⟨_,.list ho hc hd (by simpa using ra)⟩
 .intro us r;cases r;exact⟨_,.nil⟩
 .intro x d xs ds h q xQ xR us r;cases r with
  | cons r1 r2 =>
   obtain⟨as,ra⟩:=xQ _ r1;obtain⟨bs,rb⟩:=xR _ r2;exact⟨_,.cons ra rb⟩
def Nr(K:XW)(neg:Bool):R2:=λx y H Q=>∃ d e,Dat K H x d/\Dat K H y e/\d.canLay0=true/\e.canLay0=true/\d.depth<=60/\Q (.bl (if neg=true then !PyData.eqv d e else PyData.eqv d e)) H
theorem Nt(hu:X.A.units+64<adh):a8 X (Zd .NotEq) (Nr X.K true):=by intro pins s σ H x y v u Q I rx ry h;obtain⟨d,e,dx,dy,c1,c2,dd,q⟩:=h;obtain⟨as,ra⟩:=Dat.reads I d dx rx;obtain⟨bs,rb⟩:=Dat.reads I e dy ry;exact SeqAt.compareNe_reads ra rb c1 c2 (by lia) ⟨.bl _,H,I,rfl,q⟩
end
noncomputable def uH(lo st:Int)(n:Nat):It:=⟨λi _=>i<n,λi H x H'=>H'=H/\x = .int (lo+(i:Int) * st),λi _=>n<=i⟩
theorem Nu{P:Y0}{w:Zw}{K:XW}{tg:abD}(it:Ye)(lo st:Int)(n:Nat):Turn P w K tg (uH lo st n) [it] it (λi h=>adJ h it (lo+(i:Nat) * st) ((n:Int)-(i:Nat)) st) where
 mem:=by simp
 obj:=λi h q b hb=>by
  have e:b=it:=by simpa using hb
  subst e;exact⟨_,q,λv z=>by
   have z':Data.fields _=Data.cell v:=z;cases z'⟩
 keep:=λi h h' q k=>k it (by simp) _ q
 item:=by intro X hP hw hK hc i pins s σ H E I hf q hg;subst hP hw hK;obtain⟨f0,f1,f2,f3,f4,f5⟩:=hf it (by simp);have W:=Walks.range (prog:=X.prog) (w:=X.w) (I.ok.hd hc) it lo st n;refine W.item i s _ _ hg q λv h' tk hv q' kk=>?_;obtain⟨t,rfl⟩:=hv;have I1:Inv X pins σ H { s with heap:=h',toks:=tk }:=I.turned (λb o hb e=>kk b o (by simpa using hb) e) f0 f1 f3 f4 f5;exact⟨_,rfl,nQ (s:={ s with heap:=h',toks:=tk }) (n := "range_iterator") q' rfl rfl (by decide) ⟨.int (lo+(i:Int) * st),H,I1,⟨t,rfl⟩,⟨rfl,rfl⟩,q',λb hb=>(hf b hb).1⟩⟩
 done:=by
  intro X hP hw hK hc i pins s σ H E I hf q hg;subst hP hw hK;obtain⟨f0,f1,f2,f3,f4,f5⟩:=hf it (by simp);exact acW (I.ok.hd hc) q (by have:n<=i:=hg;lia) λh' eb=>⟨rfl,I.turned (t':=s.toks) (λb o hb e=>eb b o hb e) f0 f1 f3 f4 f5⟩
 self:=λ_ _ _ _ _ q h=>acX q h
noncomputable def lh(lo hi st:Int):Nat:=(Y2 lo hi st).toNat
def xS(ta:TA):TI:=λσ H R=>ta σ H λvs H1=>∃ i j c:Int,vs=[.int i,.int j,.int c]/\(-1000000<=i/\i<=1000000/\-1000000<=j/\j<=1000000/\-1000000<=c/\c<=1000000/\c≠0)/\R (uH i c (lh i j c)) H1
theorem DQ(i j c:Int)(h:c≠0):0<=Y2 i j c:=by
 unfold Y2;split
 .rename_i hc;split
  .have:=ae6 (show 0<=j-i-1 by lia) (show 0<=c by lia);lia
  .lia
 .split
  .have:=ae6 (show 0<=i-j-1 by lia) (show 0 <= -c by lia);lia
  .lia
theorem size_le(i j c:Int)(h : -1000000<=i/\i<=1000000/\-1000000<=j/\j<=1000000/\c≠0):Y2 i j c<=2000000:=by
 unfold Y2;split
 .split
  .have:=aeL (c) (show 0<=j-i-1 by lia);lia
  .lia
 .split
  .have:=aeL (-c) (show 0<=i-j-1 by lia);lia
  .lia
theorem Nv(h : -1000000<=i/\i<=1000000/\-1000000<=j/\j<=1000000/\-1000000<=c/\c<=1000000/\c≠0):Builtin.Range.small i j c=true:=by have h1:=DQ i j c h.2.2.2.2.2.2;have h2:=size_le i j c ⟨h.1,h.2.1,h.2.2.1,h.2.2.2.1,h.2.2.2.2.2.2⟩;unfold Builtin.Range.small;generalize Y2 i j c=n at h1 h2 ⊢;simp only[ae7,ZF,abS,decide_eq_true_eq,beq_iff_eq];refine⟨by lia,.inr ?_⟩;split<;>simp only[ZF,decide_eq_true_eq]<;>lia
theorem Nw(hg:Gl X "range")(hm:X.mg "range" = none)(ha:PA X [a,b,c] ta)(hs:Yv [a,b,c] X.env=(false,eval a X.env)::Yv [b,c] X.env:=by rfl)(cM:Yv [b,c] X.env=[(false,eval b X.env),(false,eval c X.env)]:=by rfl) :
 PI X tg (.Call (.Name "range" p) [a,b,c] [] pos) (xS ta):=by
 intro pins s σ H R I h;refine afY (ft I hg hm afp (YL (aB (ha pos pins s σ H _ I h) λus s1 ⟨vs,H1,I1,r1,q1⟩=>?_) (by rw[hs]) (by rw[cM];rfl)));obtain⟨i,j,k,e,hb,q⟩:=q1;subst e;cases r1 with
 | cons r rr =>
  cases rr with
  | cons r' rr =>
   cases rr with
   | cons qB rr =>
    cases rr;obtain⟨t,rfl⟩:=r;obtain⟨t',rfl⟩:=r';obtain⟨DR,rfl⟩:=qB;have hk:k≠0:=hb.2.2.2.2.2.2;refine call_range_3 hk ?_ (.inl (PyProof.noPylong_small (by lia)));refine adX (IsRange.new ..) (Nv hb) ?_;have I2:Inv X pins σ H1 { s1 with heap:=s1.heap.push { cls:=.type "range",data:=.fields #[.int i t,.int j t',.int k DR] },toks:=s1.toks }:=I1.kept λb o e=>X2 _ e;refine⟨_,[_],_,_,H1,rfl,I2.kept (t':=s1.toks) λb o e=>X2 _ e,Nu _ i k (lh i j k),?_,λb hb=>?_,q⟩
    .have e1:i+((0:Nat):Int) * k=i:=by simp
     have e2:((lh i j k:Nat):Int)-((0:Nat):Int)=Y2 i j k:=by have:=DQ i j k hk;unfold lh;lia
     show adJ _ _ (i+((0:Nat):Int) * k) (((lh i j k:Nat):Int)-((0:Nat):Int)) k;rw[e1,e2];exact Ya _ rfl
    .have e:b=(s1.heap.push { cls:=.type "range",data:=.fields #[.int i t,.int j t',.int k DR] }).objs.size:=by simpa using hb
     subst e;exact I2.gE (X9 _) (I2.az.fresh (X9 _))
section
variable{g:TG}{tb:TS}{D:Ends}{σ:L2.St}{H:Hp}{lo st:Int}{n:Nat}
theorem Nx:i3 (wI ta) g tb D σ H=ta σ H (λvs H1=>∃ i j:Int,vs=[.int i,.int j]/\(-(2 ^ 62)<=i/\i<2 ^ 62/\-(2 ^ 62)<=j/\j<2 ^ 62)/\FJ (gF i (j-i).toNat) g tb D σ H1):=rfl
theorem Ny:i3 (xS ta) g tb D σ H=ta σ H (λvs H1=>∃ i j c:Int,vs=[.int i,.int j,.int c]/\(-1000000<=i/\i<=1000000/\-1000000<=j/\j<=1000000/\-1000000<=c/\c<=1000000/\c≠0)/\FJ (uH i c (lh i j c)) g tb D σ H1):=rfl
theorem Nz(Pv:Nat->L2.St->Hp->Prop)(h0:Pv 0 σ H)(hs:∀ i σ H,i<n->Pv i σ H->g (.int (lo+(i:Int) * st)) σ H λσ2 H2=>tb { D with nx:=Pv (i+1),ct:=Pv (i+1),bk:=D.nx } σ2 H2)(hd:∀ σ H,Pv n σ H->D.nx σ H):FJ (uH lo st n) g tb D σ H:=by
 refine⟨λi m σ H=>m=n-i/\i<=n/\Pv i σ H,⟨n,by simp,YB _,h0⟩,?_⟩;rintro i m σ H ⟨rfl,hi,p⟩;by_cases aS:i<n
 .refine .inr ⟨aS,Pv (i+1),λσ' H' p'=>⟨n-(i+1),by lia,rfl,aS,p'⟩,λx H' y=>?_⟩;obtain⟨e,y⟩:=y;subst e y;exact hs i σ _ aS p
 .have e:i=n:=by lia
  subst e;exact .inl ⟨X9 _,hd σ H p⟩
end
theorem NA(xs:List V)(a:Nat):my xs (some (a:Int)) none=xs.drop a:=by
 unfold my;rw[HT.Lh,HT.Lg];by_cases h:a<=xs.length
 .rw[Nat.min_eq_left h,ac1 (by rw[acQ];lia)]
 .rw[Nat.min_eq_right (by lia),ac2 (X9 _),ac2 (by lia)];simp
end Gz
namespace Gz
noncomputable def DS(a b:Int):Int:=((Nat.gcd a.natAbs b.natAbs:Nat):Int)
noncomputable def sg(t b:Int):Int:=if b<0 then -DS t b else DS t b
noncomputable def rt(t b:Int):Int:=t.fdiv (sg t b)
noncomputable def rb(t b:Int):Int:=b.fdiv (sg t b)
end Gz
namespace Gz
open PySem PySem.Spec PyProof.Rows L2
def aw{α:Type}(R:V->α->Prop):List V->List α->Prop
 | [],[]=>True
 | x::xs,a::as=>R x a/\aw R xs as
 | _,_=>False
section
variable{α:Type}{R R':V->α->Prop}
theorem aw.len:∀ {xs:List V} {as:List α},aw R xs as->xs.length=as.length
 | [],[],_=>rfl
 | _::_,_::_,h=>by simp[aw.len h.2]
 | [],_::_,h=>h.elim
 | _::_,[],h=>h.elim
theorem aw.imp(f:∀ x a,R x a->R' x a):∀ {xs:List V} {as:List α},aw R xs as->aw R' xs as
 | [],[],_=>trivial
 | _::_,_::_,h=>⟨f _ _ h.1,aw.imp f h.2⟩
 | [],_::_,h=>h.elim
 | _::_,[],h=>h.elim
theorem aw.get:∀ {xs:List V} {as:List α},aw R xs as->∀ {i:Nat} {x:V},xs[i]?=some x->∃ a,as[i]?=some a/\R x a
 | [],[],_,i,x,e=>by simp at e
 | _::_,a::_,h,0,x,e=>by simp at e;subst e;exact⟨a,by simp,h.1⟩
 | _::_,_::_,h,i+1,x,e=>by simp only[aav] at e ⊢;exact aw.get h.2 e
 | [],_::_,h,_,_,_=>h.elim
 | _::_,[],h,_,_,_=>h.elim
theorem aw.at:∀ {xs:List V} {as:List α},aw R xs as->∀ {i:Nat} {a:α},as[i]?=some a->∃ x,xs[i]?=some x/\R x a
 | [],[],_,i,x,e=>by simp at e
 | x::_,_::_,h,0,a,e=>by simp at e;subst e;exact⟨x,by simp,h.1⟩
 | _::_,_::_,h,i+1,a,e=>by simp only[aav] at e ⊢;exact aw.at h.2 e
 | [],_::_,h,_,_,_=>h.elim
 | _::_,[],h,_,_,_=>h.elim
theorem aw.app:∀ {xs ys:List V} {as bs:List α},aw R xs as->aw R ys bs->aw R (xs++ys) (as++bs)
 | [],_,[],_,_,h=>h
 | _::_,_,_::_,_,h,h'=>⟨h.1,aw.app h.2 h'⟩
 | [],_,_::_,_,h,_=>h.elim
 | _::_,_,[],_,h,_=>h.elim
theorem aw.snoc(h:aw R xs as)(h':R x a):aw R (xs++[x]) (as++[a]):=h.app ⟨h',trivial⟩
theorem aw.ints:∀ (ns:List Int),aw (λx n=>x=V.int n) (ns.map V.int) ns
 | []=>trivial
 | n::ns=>⟨rfl,aw.ints ns⟩
theorem aw.fj{lo:Int}(n:Nat):aw (λx (k:Nat)=>x=V.int (lo+k)) ((Yn n).map λk=>V.int (lo+(k:Nat))) (Yn n):=by
 suffices ∀ l:List Nat,aw (λx (k:Nat)=>x=V.int (lo+k)) (l.map λk=>V.int (lo+(k:Nat))) l from this _
 intro l
 induction l with
 | nil=>trivial
 | cons a l ih=>exact⟨rfl,ih⟩
end
theorem mI(bJ:Ok H):∀ {xs:List V} {as:List α} {ys:List V},aw R xs as ->
 (∀ x a,a∈as->R x a->∀ Q,Q (p a) H->tt (some x::ρ) H Q)->(∀ x a,a∈as->p a=true->R x a->∀ Q:VK,Q (f a) H->te (some x::ρ) H Q) ->
 Q' (ys++(as.filter p).map f) H->el Ok ρ tt te xs ys H Q'
 | [],[],ys,_,_,_,q=>⟨bJ,by simpa using q⟩
 | x::xs,a::as,ys,h,ht,he,q=>by
  refine⟨bJ,ht x a (.head _) h.1 _ ?_⟩;by_cases hb:p a=true
  .rw[if_pos hb];refine he x a (.head _) hb h.1 _ (mI bJ h.2 (λx a ha=>ht x a (.tail _ ha)) (λx a ha=>he x a (.tail _ ha)) ?_);rw[Y4,if_pos hb] at q;simpa using q
  .rw[if_neg hb];refine mI bJ h.2 (λx a ha=>ht x a (.tail _ ha)) (λx a ha=>he x a (.tail _ ha)) ?_;rw[Y4,if_neg hb] at q;exact q
 | [],_::_,_,h,_,_,_=>h.elim
 | _::_,[],_,h,_,_,_=>h.elim
theorem filter_tt(l:List α):l.filter (λ_=>true)=l:=Z7.mpr λ_ _=>rfl
abbrev P2:=Int × Int
def bD(H:Hp)(v:V)(p:P2):Prop:=∃ a,v = .ref a/\H a=some (.tup [.int p.1,.int p.2])
theorem bD.same(h:bD H v p)(s:aj H H'):bD H' v p:=let ⟨a,e,q⟩:=h;⟨a,e,s _ _ q⟩
theorem bD.put(h:bD H v p)(hr:H r=some (.lst ys)):bD (upd H r (.lst zs)) v p:=by obtain⟨a,e,q⟩:=h;refine⟨a,e,?_⟩;rw[aG (nM q hr (λz=>nomatch z))];exact q
abbrev dU(H:Hp):List V->List P2->Prop:=aw (bD H)
theorem dU.same(h:dU H xs ps)(s:aj H H'):dU H' xs ps:=aw.imp (λ_ _ r=>r.same s) h
noncomputable def aside(s e p:P2):Int:=(p.2-s.2) * (e.1-s.1)-(p.1-s.1) * (e.2-s.2)
noncomputable def aC(ps:List P2)(i:Nat):P2:=ps.getD i (0,0)
def NB(ks:List P2)(p q:Int)(i:Nat):Prop:=i+1<ks.length/\(aC ks i).1 * q<=p/\p<=(aC ks (i+1)).1 * q
def hit(ks:List P2)(p q:Int):Prop:=∃ i,NB ks p q i
def SameBut(x:Ye)(H H':Hp):Prop:=∀ b o,b≠x->H b=some o->H' b=some o
theorem mJ(hi:i<ps.length):aC ps i∈ps:=by unfold aC;rw[XZ,X0 hi];exact acS hi
theorem eB{α β:Type}{R:Hp->V->α->Prop}{R':Hp->V->β->Prop}{Ok:Hp->Prop}{ρ:L2.St}{tt:TT}{te:TE}{f:α->β}{Q':List V->Hp->Prop}(mono:∀ H H' x a,aj H H'->R H x a->R H' x a)(iz:∀ H H' x a,aj H H'->R' H x a->R' H' x a) :
 ∀ {xs:List V} {as:List α} {ys:List V} {bs:List β} {H:Hp},aw (R H) xs as->aw (R' H) ys bs->(∀ H',aj H H'->Ok H')->(∀ x a,a∈as->∀ H',aj H H'->R H' x a->∀ Q,Q true H'->tt (some x::ρ) H' Q) ->
 (∀ x a,a∈as->∀ H',aj H H'->R H' x a->∀ Q:VK,(∀ gJ y,aj H' gJ->R' gJ y (f a)->Q y gJ)->te (some x::ρ) H' Q) ->
 (∀ H' zs,aj H H'->aw (R' H') zs (bs++as.map f)->Q' zs H')->el Ok ρ tt te xs ys H Q'
 | [],[],ys,bs,H,_,hy,bJ,_,_,q=>⟨bJ H (aj.refl H),q H ys (aj.refl H) (by simpa using hy)⟩
 | x::xs,a::as,ys,bs,H,h,hy,bJ,ht,he,q=>by
  refine⟨bJ H (aj.refl H),ht x a (.head _) H (aj.refl H) h.1 _ ?_⟩;rw[if_pos rfl];refine he x a (.head _) H (aj.refl H) h.1 _ λH2 y s2 r2=>?_;refine eB mono iz (bs:=bs++[f a]) (h.2.imp λx a r=>mono _ _ _ _ s2 r) ((hy.imp λx a r=>iz _ _ _ _ s2 r).snoc r2) (λH' s'=>bJ H' (s2.trans s')) (λx a ha H' s'=>ht x a (.tail _ ha) H' (s2.trans s')) (λx a ha H' s'=>he x a (.tail _ ha) H' (s2.trans s')) λH' zs s' hz=>?_;refine q H' zs (s2.trans s') ?_;rw[Ys]
  rwa [acw] at hz
 | [],_::_,_,_,_,h,_,_,_,_,_=>h.elim
 | _::_,[],_,_,_,h,_,_,_,_,_=>h.elim
noncomputable def sw(ks:List P2):List P2:=ks.map λp=>(p.2,p.1)
end Gz
namespace Gz
open PySem PySem.W PyProof.Rows
def dI{α:Type}(lt:Nat->Nat->Bool)(n:Nat):KasT α->(α->Prop)->Prop
 | .ret a,P=>P a
 | .ask i j k,P=>i<n/\j<n/\dI lt n (k (lt i j)) P
section
theorem oo:∀ (t:KasT α),dI lt n t (λa=>dI lt n (f a) P)->dI lt n (t.bind f) P
 | .ret _,h=>h
 | .ask _ _ k,h=>⟨h.1,h.2.1,oo (k _) h.2.2⟩
theorem DT{α:Type}{P P':α->Prop}(h:∀ a,P a->P' a):∀ (t:KasT α),dI lt n t P->dI lt n t P'
 | .ret _,q=>h _ q
 | .ask _ _ k,q=>⟨q.1,q.2.1,DT h (k _) q.2.2⟩
theorem DU{α:Type}{cmp:Nat->Nat->(Bool->Yd->Prop)->Yd->Prop}{Ok:Yd->Prop}(hc:∀ i j C s,i<n->j<n->Ok s->(∀ s',Ok s'->C (lt i j) s')->cmp i j C s){P:α->Prop}{Q:α->Yd->Prop}(hQ:∀ a s,Ok s->P a->Q a s) :
 ∀ (t:KasT α) (s:Yd),Ok s->dI lt n t P->t.kasWp cmp Q s
 | .ret a,s,o,h=>hQ a s o h
 | .ask i j k,s,o,h=>hc i j _ s h.1 h.2.1 o λs' o'=>DU hc hQ (k (lt i j)) s' o' h.2.2
structure Ord(lt:Nat->Nat->Bool):Prop where
 asym:∀ {a b},lt a b=true->lt b a=false
 tr:∀ {a b c},lt b a=false->lt c b=false->lt c a=false
theorem Ord.rfl'(O:Ord lt)(a:Nat):lt a a=false:=by
 cases h:lt a a with
 | false=>rfl
 | true=>rw[O.asym h] at h;cases h
def dJ(lt:Nat->Nat->Bool)(p:Array Nat)(k:Nat):Prop:=∀ i j,i<=j->j<k->lt (p.getD j 0) (p.getD i 0)=false
def e9(lt:Nat->Nat->Bool)(p:Array Nat)(k:Nat):Prop:=∀ i j,i<=j->j<k->lt (p.getD i 0) (p.getD j 0)=false
def b9(n:Nat)(p:Array Nat):Prop:=p.toList.Perm (Yn n)
theorem b9.size(h:b9 n p):p.size=n:=by have:=h.length_eq;simpa using this
theorem b9.below(h:b9 n p)(hi:i<n):p.getD i 0<n:=by
 have hs:=h.size;have cF:i<p.size:=by lia
 have e:p.getD i 0=p[i]:=by simp[aft,cF]
 rw[e];have m:p[i]∈p.toList:=by simp
 simpa using h.mem_iff.mp m
theorem b9.of(h:b9 n p)(hq:q.Perm p):b9 n q:=(Array.perm_iff_toList_perm.mp hq).trans h
theorem dJ.one(O:Ord lt):dJ lt p 1:=λi j fG hj=>by
 have:i=j:=by lia
 subst this;exact O.rfl' _
theorem e9.one(O:Ord lt):e9 lt p 1:=λi j fG hj=>by
 have:i=j:=by lia
 subst this;exact O.rfl' _
theorem dJ.succ(O:Ord lt)(h:dJ lt p k)(hk:1<=k)(hn:lt (p.getD k 0) (p.getD (k-1) 0)=false):dJ lt p (k+1):=λi j fG hj=>by
 by_cases e:j=k
 .subst e;by_cases ei:i=j
  .subst ei;exact O.rfl' _
  .exact O.tr (h i (j-1) (by lia) (by lia)) hn
 .exact h i j fG (by lia)
theorem e9.succ(O:Ord lt)(h:e9 lt p k)(hk:1<=k)(hn:lt (p.getD (k-1) 0) (p.getD k 0)=false):e9 lt p (k+1):=λi j fG hj=>by
 by_cases e:j=k
 .subst e;by_cases ei:i=j
  .subst ei;exact O.rfl' _
  .exact O.tr hn (h i (j-1) (by lia) (by lia))
 .exact h i j fG (by lia)
theorem lj(hj:j<=p.size)(k:Nat):(kas_rev p i j).getD k 0=if i<=k/\k<j then p.getD (i+j-1-k) 0 else p.getD k 0:=by simp only[abT];unfold kas_rev;rw[getElem?_mirror_all hj];split<;>rfl
theorem DV(hk:k<p.size)(hl:l<=k)(i:Nat):(bubble p k (k-l)).getD i 0=if i=l then p.getD k 0 else if l<i/\i<=k then p.getD (i-1) 0 else p.getD i 0:=by
 simp only[abT];rw[getElem?_bubble hk _ (by lia)];have e:k-(k-l)=l:=by lia
 rw[e];split
 .rfl
 .split<;>rfl
theorem DW(O:Ord lt)(hp:b9 n p):∀ (f a:Nat),1<=a->a+f<=n->dJ lt p a->(∀ m,a<=m->m<=a+f->dJ lt p m->P m)->dI lt n (kas_asc p f a) P
 | 0,a,h1,h2,hs,q=>q a (X9 _) (by lia) hs
 | f+1,a,h1,h2,hs,q=>by
  refine⟨hp.below (by lia),hp.below (by lia),?_⟩;cases c:lt (p.getD a 0) (p.getD (a-1) 0) with
  | true =>
   simp only[↓reduceIte];exact q a (X9 _) (by lia) hs
  | false =>
   simp only[Yu,↓reduceIte];exact DW O hp f (a+1) (by lia) (by lia) (hs.succ O h1 c) λm m1 m2=>q m (by lia) (by lia)
theorem e9.rev(h:e9 lt p k)(hk:k<=p.size)(hi:i<=k)(he:∀ j,i<=j->j<k->lt (p.getD (k-1) 0) (p.getD j 0)=false)(O:Ord lt):e9 lt (kas_rev p i k) k:=λa b fH hb=>by
 rw[lj hk,lj hk];have eqv:∀ x y,i<=x->x<k->i<=y->y<k->lt (p.getD x 0) (p.getD y 0)=false:=λx y x1 x2 y1 y2=>O.tr (he y y1 y2) (h x (k-1) (by lia) (by lia));split
 .split
  .exact eqv _ _ (by lia) (by lia) (by lia) (by lia)
  .exfalso;lia
 .split
  .exact h _ _ (by lia) (by lia)
  .exact h _ _ fH hb
theorem uI(O:Ord lt):∀ (f:Nat) (p:Array Nat) (k q:Nat),b9 n p->1<=k->k+f<=n->q+1<=k->e9 lt p k->(∀ j,k-(q+1)<=j->j<k->lt (p.getD (k-1) 0) (p.getD j 0)=false) ->
 (∀ p' k' q',b9 n p'->k<=k'->k'<=k+f->q' + 1<=k'->e9 lt p' k'->(∀ j,k' - (q' + 1)<=j->j<k'->lt (p'.getD (k' - 1) 0) (p'.getD j 0)=false)->P (p',k',q'))->dI lt n (kas_desc f p k q) P
 | 0,p,k,q,hp,h1,h2,h3,hd,he,fin=>fin p k q hp (X9 _) (by lia) h3 hd he
 | f+1,p,k,q,hp,h1,h2,h3,hd,he,fin=>by
  have hs:=hp.size;have one:∀ (p':Array Nat),∀ j,(k+1)-(0+1)<=j->j<k+1->lt (p'.getD (k+1-1) 0) (p'.getD j 0)=false:=λp' j j1 j2=>by
   have:j=k:=by lia
   subst this;exact O.rfl' _
  refine⟨hp.below (by lia),hp.below (by lia),?_⟩;cases c:lt (p.getD k 0) (p.getD (k-1) 0) with
  | true =>
   simp only[↓reduceIte];have c':=O.asym c;by_cases hq:q > 0
   .rw[if_pos hq];have dH:b9 n (kas_rev p (k-(q+1)) k):=hp.of (adP _ _ _ _);have ig:e9 lt (kas_rev p (k-(q+1)) k) k:=hd.rev (by lia) (by lia) he O;refine uI O f _ (k+1) 0 dH (by lia) (by lia) (by lia) (ig.succ O h1 ?_) (one _) λp2 k2 q2 a1 a2 a3 a4 a5 a6=>fin p2 k2 q2 a1 (by lia) (by lia) a4 a5 a6;rw[lj (by lia),lj (by lia),if_pos (by lia),if_neg (by lia)];have e1:k-(q+1)+k-1-(k-1)=k-(q+1):=by lia
    rw[e1];exact O.tr c' (hd _ (k-1) (by lia) (by lia))
   .rw[if_neg hq];exact uI O f p (k+1) 0 hp (by lia) (by lia) (by lia) (hd.succ O h1 c') (one _) λp2 k2 q2 a1 a2 a3 a4 a5 a6=>fin p2 k2 q2 a1 (by lia) (by lia) a4 a5 a6
  | false =>
   simp only[Yu,↓reduceIte];refine⟨hp.below (by lia),hp.below (by lia),?_⟩;cases d:lt (p.getD (k-1) 0) (p.getD k 0) with
   | true =>
    simp only[↓reduceIte];exact fin p k q hp (X9 _) (by lia) h3 hd he
   | false =>
    simp only[Yu,↓reduceIte];refine uI O f p (k+1) (q+1) hp (by lia) (by lia) (by lia) (hd.succ O h1 d) (λj j1 j2=>?_) λp2 k2 q2 a1 a2 a3 a4 a5 a6=>fin p2 k2 q2 a1 (by lia) (by lia) a4 a5 a6;have ek:k+1-1=k:=by lia
    rw[ek];by_cases ej:j=k
    .subst ej;exact O.rfl' _
    .exact O.tr (he j (by lia) (by lia)) c
theorem e9.whole(h:e9 lt p k)(hk:k<=p.size):dJ lt (kas_rev p 0 k) k:=λa b fH hb=>by rw[lj hk,lj hk,if_pos (by lia),if_pos (by lia)];exact h _ _ (by lia) (by lia)
theorem DX(O:Ord lt)(hp:b9 n p)(h1:1<=k)(h2:k<=n)(hd:e9 lt p k)(fin:∀ m p',b9 n p'->1<=m->m<=n->dJ lt p' m->P (m,p')):dI lt n (kas_tail3 k n p) P:=by have dH:b9 n (kas_rev p 0 k):=hp.of (adP _ _ _ _);have hs:=hp.size;unfold kas_tail3;refine oo _ (DW O dH (n-k) k h1 (by lia) (hd.whole (by lia)) λm m1 m2 ms=>?_);exact fin m _ dH (by lia) (by lia) ms
theorem DY(O:Ord lt)(hp:b9 n p)(h1:1<=k)(h2:k+1<=n)(hd:e9 lt p (k+1))(fin:∀ m p',b9 n p'->1<=m->m<=n->dJ lt p' m->P (m,p')):dI lt n (kas_descPart k n p) P:=by
 unfold kas_descPart;refine oo _ (uI O (n-(k+1)) p (k+1) 0 hp (by lia) (by lia) (by lia) hd (λj j1 j2=>?_) λp2 k2 q2 a1 a2 a3 a4 a5 a6=>?_)
 .have:j=k:=by lia
  subst this;exact O.rfl' _
 .have hs:=a1.size;dsimp only;by_cases hq:q2 > 0
  .rw[if_pos hq];exact DX O (a1.of (adP _ _ _ _)) (by lia) (by lia) (a5.rev (by lia) (by lia) a6 O) fin
  .rw[if_neg hq];exact DX O a1 (by lia) (by lia) a5 fin
theorem NC(O:Ord lt)(hp:b9 n p)(hn:1<=n)(fin:∀ m p',b9 n p'->1<=m->m<=n->dJ lt p' m->P (m,p')):dI lt n (kas_count n p) P:=by
 have hs:=hp.size;unfold kas_count;have key:dI lt n (kas_asc p (n-1) 1) (λm=>1<=m/\m<=n/\dJ lt p m/\(m<n->lt (p.getD m 0) (p.getD (m-1) 0)=true)):=by
  have gen:∀ (f a:Nat),1<=a->a+f=n->dJ lt p a->dI lt n (kas_asc p f a) (λm=>1<=m/\m<=n/\dJ lt p m/\(m<n->lt (p.getD m 0) (p.getD (m-1) 0)=true)):=by
   intro f
   induction f with
   | zero=>intro a h1 h2 hs;exact⟨h1,by lia,hs,λz=>absurd z (by lia)⟩
   | succ f ih =>
    intro a h1 h2 hs;refine⟨hp.below (by lia),hp.below (by lia),?_⟩;cases c:lt (p.getD a 0) (p.getD (a-1) 0) with
    | true =>
     simp only[↓reduceIte];exact⟨h1,by lia,hs,λ_=>c⟩
    | false =>
     simp only[Yu,↓reduceIte];exact ih (a+1) (by lia) (by lia) (hs.succ O h1 c)
  exact gen (n-1) 1 (X9 _) (by lia) (dJ.one O)
 refine oo _ (DT (λm hm=>?_) _ key);obtain⟨m1,m2,ms,mc⟩:=hm;by_cases e:(m == n)=true
 .rw[if_pos e];exact fin m p hp m1 m2 ms
 .rw[if_neg e];have ND:m<n:=by
   have:m≠n:=by simpa using e
   lia
  have mc:=mc ND;by_cases h2:m > 1
  .rw[if_pos h2];refine⟨hp.below (by lia),hp.below (by lia),?_⟩;cases c:lt (p.getD 0 0) (p.getD (m-1) 0) with
   | true =>
    simp only[↓reduceIte];exact fin m p hp m1 m2 ms
   | false =>
    simp only[Yu,↓reduceIte];have eqv:∀ x y,x<m->y<m->lt (p.getD x 0) (p.getD y 0)=false:=λx y hx hy =>
     O.tr (ms y (m-1) (by lia) (by lia)) (O.tr c (ms 0 x (by lia) hx))
    have dH:b9 n (kas_rev p 0 m):=hp.of (adP _ _ _ _);refine DY O dH m1 (by lia) (λi j fG hj=>?_) fin;rw[lj (by lia),lj (by lia)];by_cases ej:j=m
    .subst ej;rw[if_neg (show ¬ (0<=j/\j<j) by lia)];split
     .exact O.tr (O.asym mc) (eqv _ _ (by lia) (by lia))
     .have:i=j:=by lia
      subst this;exact O.rfl' _
    .rw[if_pos (by lia),if_pos (by lia)];exact eqv _ _ (by lia) (by lia)
  .rw[if_neg h2];have e1:m=1:=by lia
   subst e1;exact DY O hp (X9 _) (by lia) ((e9.one O).succ O (X9 _) (O.asym mc)) fin
theorem xT(O:Ord lt)(hp:b9 n p)(hk:k<n)(hs:dJ lt p k)(fin:∀ m,m<=k->(∀ i,i<m->lt (p.getD k 0) (p.getD i 0)=false)->(∀ i,m<=i->i<k->lt (p.getD i 0) (p.getD k 0)=false)->P m) :
 ∀ (f l r:Nat),r-l<=f->l<=r->r<=k->(∀ i,i<l->lt (p.getD k 0) (p.getD i 0)=false)->(∀ i,r<=i->i<k->lt (p.getD i 0) (p.getD k 0)=false)->dI lt n (kas_place p k f l r) P
 | 0,l,r,h1,h2,h3,a,b=>by
  have:l=r:=by lia
  subst this;exact fin l h3 a b
 | f+1,l,r,h1,h2,h3,a,b=>by
  unfold kas_place;by_cases hlr:l ≥ r
  .rw[if_pos hlr];have:l=r:=by lia
   subst this;exact fin l h3 a b
  .rw[if_neg hlr];refine⟨hp.below hk,hp.below (by lia),?_⟩;cases c:lt (p.getD k 0) (p.getD ((l+r) / 2) 0) with
   | true =>
    simp only[↓reduceIte];refine xT O hp hk hs fin f l ((l+r) / 2) (by lia) (by lia) (by lia) a λi i1 i2=>?_;exact O.tr (O.asym c) (hs _ _ i1 i2)
   | false =>
    simp only[Yu,↓reduceIte];refine xT O hp hk hs fin f ((l+r) / 2+1) r (by lia) (by lia) h3 (λi i1=>?_) b;exact O.tr (hs i ((l+r) / 2) (by lia) (by lia)) c
theorem DZ(O:Ord lt)(fin:∀ p,b9 n p->dJ lt p n->P p):∀ (f:Nat) (p:Array Nat) (k:Nat),k+f=n->b9 n p->dJ lt p k->dI lt n (kas_bin f p k) P
 | 0,p,k,h,hp,hs=>fin p hp (by rw[<- h];exact hs)
 | f+1,p,k,h,hp,hs=>by
  have sz:=hp.size;unfold kas_bin;refine oo _ (xT O hp (by lia) hs (λm m1 ma mb=>?_) k 0 k (by lia) (by lia) (X9 _) (λ_ z=>absurd z (by lia)) λ_ z1 z2=>absurd z2 (by lia));refine DZ O fin f _ (k+1) (by lia) (hp.of (bubble_perm _ _ _)) λi j fG hj=>?_;rw[DV (by lia) m1,DV (by lia) m1];by_cases ei:i=m
  .rw[if_pos ei];by_cases ej:j=m
   .rw[if_pos ej];exact O.rfl' _
   .rw[if_neg ej,if_pos (by lia)];exact mb _ (by lia) (by lia)
  .rw[if_neg ei];by_cases ej:j=m
   .rw[if_pos ej,if_neg (by lia)];exact ma _ (by lia)
   .rw[if_neg ej];split
    .split
     .exact hs _ _ (by lia) (by lia)
     .exact hs _ _ (by lia) (by lia)
    .split
     .exfalso;lia
     .exact hs _ _ (by lia) (by lia)
theorem D0(O:Ord lt)(hn:1<=n):dI lt n (kas_sort n) (λp=>b9 n p/\dJ lt p n):=by
 unfold kas_sort;have h0:b9 n (aah (Yn n)):=by unfold b9;simp
 refine oo _ (NC O h0 hn λm p hp m1 m2 ms=>?_);dsimp only;by_cases h:m<n
 .rw[if_pos h];have e:max m 1=m:=by lia
  rw[e];exact DZ O (λp hp hs=>⟨hp,hs⟩) (n-m) p m (by lia) hp ms
 .rw[if_neg h];have e:m=n:=by lia
  subst e;exact⟨hp,ms⟩
noncomputable def uJ{α:Type}(lt:Nat->Nat->Bool):KasT α->α
 | .ret a=>a
 | .ask i j k=>uJ lt (k (lt i j))
theorem D1:∀ (t:KasT α),dI lt n t P->P (uJ lt t)
 | .ret _,h=>h
 | .ask i j k,h=>D1 (k (lt i j)) h.2.2
theorem D2:∀ (t:KasT α),dI lt n t P->dI lt n t (λa=>a=uJ lt t)
 | .ret _,_=>rfl
 | .ask i j k,h=>⟨h.1,h.2.1,D2 (k (lt i j)) h.2.2⟩
noncomputable def cG(lt:Nat->Nat->Bool)(n:Nat):Array Nat:=if n<2 then aah (Yn n) else uJ lt (kas_sort n)
theorem oq(O:Ord lt):b9 n (cG lt n)/\dJ lt (cG lt n) n:=by
 unfold cG;split
 .rename_i h;refine⟨by unfold b9;simp,λi j fG hj=>?_⟩;have:i=j:=by lia
  subst this;exact O.rfl' _
 .rename_i h;exact D1 _ (D0 O (by lia))
end
end Gz
namespace Gz
open PySem PySem.Spec PyProof.Rows L2
local macro_rules | `(tactic| walk_at "o") => `(tactic| ((try simp only [PySem.Addr] at *); lia))
theorem D3:∀ {a b:List Int},HT.lexLt a b=true->HT.lexLt b a=false
 | [],[],h=>by cases h
 | [],_::_,_=>rfl
 | _::_,[],h=>by cases h
 | x::a,y::b,h=>by
  rw[HT.nW] at h ⊢;by_cases e:x=y
  .subst e;rw[if_pos rfl] at h ⊢;exact D3 h
  .rw[if_neg e] at h;rw[if_neg (Y1 e)];have:x<y:=by simpa using h
   simpa using (by walk_at "o" : ¬ y<x)
theorem D4:∀ {a b c:List Int},HT.lexLt b a=false->HT.lexLt c b=false->HT.lexLt c a=false
 | [],[],[],_,_=>rfl
 | [],[],_::_,_,_=>rfl
 | [],_::_,[],_,h=>by cases h
 | [],_::_,_::_,_,_=>rfl
 | _::_,[],_,h,_=>by cases h
 | _::_,_::_,[],_,h=>by cases h
 | x::a,y::b,z::c,h1,h2=>by
  rw[HT.nW] at h1 h2 ⊢;by_cases e1:y=x
  .subst e1;rw[if_pos rfl] at h1;by_cases e2:z=y
   .subst e2;rw[if_pos rfl] at h2 ⊢;exact D4 h1 h2
   .rw[if_neg e2] at h2 ⊢;exact h2
  .rw[if_neg e1] at h1;have ot:¬ y<x:=by simpa using h1
   by_cases e2:z=y
   .subst e2;rw[if_neg e1];exact h1
   .rw[if_neg e2] at h2;have qC:¬ z<y:=by simpa using h2
    rw[if_neg (by walk_at "o")];simpa using (by walk_at "o" : ¬ z<x)
section
theorem NF(h:Q (a == b) s):Yr (model prog w) A (eqBool (.int a t) (.int b u)) Q E s:=SeqAt.EqAt.int_int a t b u prog w E Q h
theorem NG:∀ {ns ms:List Int} {us ws:List X7} {i:Nat},acF us ns->acF ws ms->fin=decide (ns.length<ms.length)->Q (HT.lexLt ns ms) s->PySem.W.KatLex prog w A b fin Q (us.zip ws) i s:=by
 intro ns
 induction ns with
 | nil =>
  intro ms us ws i r q e h;cases r;cases q with
  | nil=>subst e;exact h
  | cons=>subst e;exact h
 | cons n ns ih =>
  intro ms us ws i r q e h;cases r with
  | cons _ t r =>
   cases q with
   | nil=>subst e;exact h
   | cons m t' q =>
    rw[List.zip_cons_cons];refine PySem.W.kat_cons (NF (PySem.W.kat_go (λhh=>PySem.W.kat_yes ?_) λhh=>PySem.W.kat_no ?_))
    .have e1:n=m:=by simpa using hh
     subst e1;rw[HT.nW,if_pos rfl] at h;exact ih r q (by subst e;simp) h
    .have e1:n≠m:=by simpa using hh
     rw[HT.nW,if_neg e1] at h;cases (b && i == 0) with
     | true=>exact oneLt_int h
     | false=>exact PySem.W.kat_one _ _ (lt_int h)
end
def D5(sp:Sp):List V->List V->Hp->(List V->Hp->Prop)->Prop
 | [],ks,H,Q=>Q ks H
 | x::r,ks,H,Q=>sp [x] H (λk H1=>D5 sp r (ks++[k]) H1 Q) E0
def gL(K:XW)(H:Hp):List V->List (List Int)->Prop
 | [],[]=>True
 | k::ks,n::ns=>(∃ p,k = .ref p/\ah K H p (n.map V.int)/\n≠[])/\gL K H ks ns
 | _,_=>False
theorem gL.len{K:XW}{H:Hp}:∀ {ks:List V} {ns:List (List Int)},gL K H ks ns->ks.length=ns.length
 | [],[],_=>rfl
 | _::_,_::_,h=>by simp[gL.len h.2]
 | [],_::_,h=>h.elim
 | _::_,[],h=>h.elim
theorem gL.get{K:XW}{H:Hp}:∀ {ks:List V} {ns:List (List Int)} {i:Nat} {k:V},gL K H ks ns->ks[i]?=some k->∃ p,k = .ref p/\ah K H p ((ns.getD i []).map V.int)
 | [],[],_,_,_,e=>by simp at e
 | k::_,n::_,0,_,h,e=>by simp at e;subst e;obtain⟨⟨p,a,b,_⟩,_⟩:=h;exact⟨p,a,b⟩
 | _::_,_::_,i+1,_,h,e=>by have:=gL.get (i:=i) h.2 (by simpa using e);simpa using this
 | [],_::_,_,_,h,_=>h.elim
 | _::_,[],_,_,h,_=>h.elim
section
noncomputable def cN(kis:List (List Int))(i j:Nat):Bool:=HT.lexLt (kis.getD i []) (kis.getD j [])
theorem mK(kis:List (List Int)):Ord (cN kis):=⟨λh=>D3 h,λh1 h2=>D4 h1 h2⟩
noncomputable def dr{α:Type}(kis:List (List Int))(d:α)(as:List α):List α:=(cG (cN kis) as.length).toList.map λi=>as.getD i d
theorem ou:(dr kis d as).Perm as:=by
 have h:=(oq (n:=as.length) (mK kis)).1;have q:=h.map (λi=>as.getD i d);have self:(Yn as.length).map (λi=>as.getD i d)=as:=by
  apply acT
  .simp
  .intro i h1 h2;simp[XZ,h2]
 rw[self] at q;exact q
theorem D6:(dr kis d as).length=as.length:=ou.length_eq
theorem NH(hk:kis=as.map f):(dr kis d as).Pairwise (λa b=>HT.lexLt (f b) (f a)=false):=by
 obtain⟨hp,hs⟩:=oq (n:=as.length) (mK kis);have sz:=hp.size;unfold dr;rw[aeu];refine List.pairwise_iff_getElem.mpr λi j hi hj fG=>?_;have cF:i<(cG (cN kis) as.length).size:=by simpa using hi
 have xU:j<(cG (cN kis) as.length).size:=by simpa using hj
 have q:=hs i j (by lia) (by lia);have e1:(cG (cN kis) as.length).getD i 0=(cG (cN kis) as.length)[i]:=by simp[aft,cF]
 have e2:(cG (cN kis) as.length).getD j 0=(cG (cN kis) as.length)[j]:=by simp[aft,xU]
 have l1:=b9.below hp (i:=i) (by lia);have l2:=b9.below hp (i:=j) (by lia);rw[e1,e2] at q;rw[e1] at l1;rw[e2] at l2;have q2:HT.lexLt (kis.getD (cG (cN kis) as.length)[j] []) (kis.getD (cG (cN kis) as.length)[i] [])=false:=q;have g:∀ k,k<as.length->kis.getD k []=f (as.getD k d):=λk gM=>by subst hk;simp[XZ,gM]
 simp only[Array.getElem_toList];rw[g _ l1,g _ l2] at q2;exact q2
theorem NI(r:Vals xs vs):Vals (dr kis .non xs) ((cG (cN kis) xs.length).toList.map λi=>vs.getD i Value.none):=by
 have hp:=(oq (n:=xs.length) (mK kis)).1;have gen:∀ l:List Nat,(∀ i∈l,i<xs.length)->Vals (l.map λi=>xs.getD i .non) (l.map λi=>vs.getD i Value.none):=by
  intro l
  induction l with
  | nil=>intro _;exact .nil
  | cons i l ih =>
   intro h;have hi:=h i (.head _);refine .cons ?_ (ih λj hj=>h j (.tail _ hj));have e:xs[i]?=some xs[i]:=X0 hi;obtain⟨u,eu,ru⟩:=r.get e;show RelV (xs.getD i .non) (vs.getD i Value.none);rw[XZ,XZ,eu,e];exact ru
 exact gen _ λi hi=>by simpa using hp.mem_iff.mp hi
def NJ(K:XW)(sp:Sp)(x:V)(H1:Hp)(Q:VK):Prop:=∃ (a:Ye) (xs:List V),x = .ref a/\ai K H1 a xs/\xs.length<64/\D5 sp xs [] H1 λks H2=>∃ kis,gL K H2 ks kis/\∀ l,H2 l=none->Q (.ref l) (upd H2 l (.lst (dr kis .non xs)))
def NK(K:XW)(sp:Sp)(te:TE):TE:=λσ H Q=>te σ H λx H1=>NJ K sp x H1 Q
end
abbrev En:=Option Int
noncomputable def ev:En->V
 | none=>.non
 | some i=>.int i
theorem qD:ev none = .non:=rfl
theorem qE(i:Int):ev (some i) = .int i:=rfl
noncomputable def aW:En->En->Bool
 | some x,some y=>decide (y<x)
 | _,_=>false
def aI(H:Hp)(v:V)(a b:En):Prop:=∃ p,v = .ref p/\H p=some (.tup [ev a,ev b])
theorem aI.same(h:aI H v a b)(s:aj H H1):aI H1 v a b:=by obtain⟨p,e,h⟩:=h;exact⟨p,e,s _ _ h⟩
theorem aI.new:aI (upd H p (.tup [ev a,ev b])) (.ref p) a b:=⟨p,rfl,ar⟩
noncomputable def hold(a b:En)(n:Int):Bool:=!aW a (some n) && !aW (some n) b
theorem xV:hold a b n=true↔(∀ x,a=some x->x<=n)/\(∀ y,b=some y->n<=y):=by unfold hold;rcases a with _|x<;>rcases b with _|y<;>simp[aW]
noncomputable def dt:En->En->En
 | some x,some y=>some (if y > x then y else x)
 | some x,none=>some x
 | none,b=>b
noncomputable def dv:En->En->En
 | some x,some y=>some (if y<x then y else x)
 | some x,none=>some x
 | none,b=>b
noncomputable def nums(a b:En):List Int:=[a,b].filterMap id
noncomputable def qF(v:V):Bool:=!decide (v = .non)
theorem NL(a b:En):([ev a,ev b].filter qF).map (λv=>v)=(nums a b).map V.int:=by rcases a with _|x<;>rcases b with _|y<;>simp[ev,nums,qF]
theorem NM(a b:En):mG jn (nums a b) .non=ev (dt a b):=by rcases a with _|x<;>rcases b with _|y<;>simp[nums,dt,jn,mG,ev]
theorem NN(a b:En):mG jZ (nums a b) .non=ev (dv a b):=by rcases a with _|x<;>rcases b with _|y<;>simp[nums,dv,jZ,mG,ev]
def D7(H:Hp)(v:V)(lo hi:En):Prop:=(aW lo hi=true->v = .non)/\(aW lo hi=false->aI H v lo hi)
theorem D8{K:XW}{H:Hp}{p:Ye}{a b:En}{Q:VK}{tt:TT}{te:TE}(hp:H p=some (.tup [ev a,ev b]))(ht:∀ x H Q,Q (qF x) H->tt [some x] H Q)(he:∀ x H Q,Q x H->te [some x] H Q)
 (q:∀ l,H l=none->Q (.ref l) (upd H l (.lst ((nums a b).map V.int)))):jW (jQ K p) [] tt te H Q:=by
 refine bR (xs:=[ev a,ev b]) Dv a9 (n9 (p:=qF) (f:=λv=>v) (ah.of hp) (λx _ Q h=>ht x H Q h) (λx _ _ Q h=>he x H Q h) ?_);rw[Yj,NL];exact q
end Gz
namespace Gz
open L2
abbrev S2:=En × En
noncomputable def hs(s:S2)(n:Int):Bool:=hold s.1 s.2 n
def uK(s:S2):Prop:=aW s.1 s.2=false
def NO(a b:En):Prop:=a=none ∨ ∃ x y,a=some x/\b=some y/\x<=y
theorem ox:hs s n=true↔(∀ x,s.1=some x->x<=n)/\(∀ y,s.2=some y->n<=y):=xV
def oy(l:List En)(e:En):Prop:=e∈l/\∀ x∈l,NO e x
def NP(a b:En):Prop:=b=none ∨ ∃ x y,a=some x/\b=some y/\x<=y
def qG(l:List En)(e:En):Prop:=e∈l/\∀ x∈l,NP x e
open PySem in
def cv(H:Hp):List V->List S2->Prop
 | [],[]=>True
 | v::vs,s::ss=>aI H v s.1 s.2/\cv H vs ss
 | _,_=>False
section
theorem cv.same(e:aj H H1):∀ {vs:List V} {ss:List S2},cv H vs ss->cv H1 vs ss
 | [],[],_=>trivial
 | _::_,_::_,h=>⟨h.1.same e,cv.same e h.2⟩
 | [],_::_,h=>h.elim
 | _::_,[],h=>h.elim
theorem aI.put(h:aI H v a b)(hl:H l=some (.lst ys)):aI (upd H l o) v a b:=by obtain⟨p,e,h⟩:=h;exact⟨p,e,by rw[aG (nM h hl λz=>nomatch z)];exact h⟩
theorem cv.len:∀ {vs:List V} {ss:List S2},cv H vs ss->vs.length=ss.length
 | [],[],_=>rfl
 | _::_,_::_,h=>by simp[cv.len h.2]
 | [],_::_,h=>h.elim
 | _::_,[],h=>h.elim
theorem cv.get:∀ {vs:List V} {ss:List S2} {i:Nat} {v:V},cv H vs ss->vs[i]?=some v->∃ s,ss[i]?=some s/\aI H v s.1 s.2
 | [],[],_,_,_,e=>by simp at e
 | _::_,s::_,0,_,h,e=>by simp at e;subst e;exact⟨s,rfl,h.1⟩
 | _::_,_::_,i+1,_,h,e=>by obtain⟨s,a,b⟩:=cv.get (i:=i) h.2 (by simpa using e);exact⟨s,by simpa using a,b⟩
 | [],_::_,_,_,h,_=>h.elim
 | _::_,[],_,_,h,_=>h.elim
noncomputable def uL(H:Hp):V->V
 | .ref p=>(match H p with|some (.tup (x::_))=>x|_=>.non)
 | _=>.non
noncomputable def uM(H:Hp):V->V
 | .ref p=>(match H p with|some (.tup (_::x::_))=>x|_=>.non)
 | _=>.non
theorem aI.fst(h:aI H v a b):uL H v=ev a:=by obtain⟨p,rfl,h⟩:=h;simp only[uL,h]
theorem aI.snd(h:aI H v a b):uM H v=ev b:=by obtain⟨p,rfl,h⟩:=h;simp only[uM,h]
theorem cv.fst:∀ {vs:List V} {ss:List S2},cv H vs ss->vs.map (uL H)=ss.map λs=>ev s.1
 | [],[],_=>rfl
 | _::_,_::_,h=>by rw[Ys,Ys,h.1.fst,cv.fst h.2]
 | [],_::_,h=>h.elim
 | _::_,[],h=>h.elim
theorem cv.snd:∀ {vs:List V} {ss:List S2},cv H vs ss->vs.map (uM H)=ss.map λs=>ev s.2
 | [],[],_=>rfl
 | _::_,_::_,h=>by rw[Ys,Ys,h.1.snd,cv.snd h.2]
 | [],_::_,h=>h.elim
 | _::_,[],h=>h.elim
theorem cv.mem:∀ {vs:List V} {ss:List S2} {v:V},cv H vs ss->v∈vs->∃ s∈ss,aI H v s.1 s.2:=λh hv=>by obtain⟨i,hi,e⟩:=adz.mp hv;obtain⟨s,es,q⟩:=cv.get h (by rw[X0 hi,e]);exact⟨s,Yo es,q⟩
theorem xW:∀ (es:List En),nX .non (es.map ev)=decide ((none:En)∈es)
 | []=>rfl
 | e::es=>by
  have ih:=xW es;unfold nX at ih ⊢;rw[Ys,Zn,ih];rcases e with _|x
  .simp[ev,i8]
  .simp[ev,i8]
theorem xX:∀ (es:List En),(es.map ev).all i7=true
 | []=>rfl
 | e::es=>by rw[Ys,ad0,xX es];rcases e with _|x<;>rfl
theorem xY:∀ {es:List En},(none:En)∉es->es.map ev=(es.filterMap id).map V.int
 | [],_=>rfl
 | e::es,h=>by
  rcases e with _|x
  .exact absurd (.head _) h
  .have ih:=xY (es:=es) λz=>h (.tail _ z);rw[Ys,ih];rfl
theorem D9(h:(none:En)∉es)(h0:es≠[]):es.filterMap id≠[]:=by
 cases es with
 | nil=>exact absurd rfl h0
 | cons e r =>
  rcases e with _|x
  .exact absurd (.head _) h
  .intro z;simp at z
theorem NQ(h:(none:En)∉es)(h0:es≠[]):oy es (some (jZ (es.filterMap id))):=by
 have mem:∀ x,some x∈es↔x∈es.filterMap id:=λx=>by simp
 have a7:es.filterMap id≠[]:=by
  cases es with
  | nil=>exact absurd rfl h0
  | cons e r =>
   rcases e with _|x
   .exact absurd (.head _) h
   .intro z;simp at z
 obtain⟨m1,m2⟩:=DB a7;refine⟨(mem _).mpr m1,λx hx=>?_⟩;rcases x with _|x
 .exact absurd hx h
 .exact .inr ⟨_,_,rfl,rfl,m2 x ((mem x).mp hx)⟩
theorem NR(h:(none:En)∉es)(h0:es≠[]):qG es (some (jn (es.filterMap id))):=by
 have mem:∀ x,some x∈es↔x∈es.filterMap id:=λx=>by simp
 have a7:es.filterMap id≠[]:=by
  cases es with
  | nil=>exact absurd rfl h0
  | cons e r =>
   rcases e with _|x
   .exact absurd (.head _) h
   .intro z;simp at z
 obtain⟨m1,m2⟩:=DA a7;refine⟨(mem _).mpr m1,λx hx=>?_⟩;rcases x with _|x
 .exact absurd hx h
 .exact .inr ⟨_,_,rfl,rfl,m2 x ((mem x).mp hx)⟩
theorem NS(h:(none:En)∈es):oy es none:=⟨h,λ_ _=>.inl rfl⟩
theorem NT(h:(none:En)∈es):qG es none:=⟨h,λ_ _=>.inl rfl⟩
def j5(H:Hp)(v:V)(as:List S2):Prop:=(as=[]->v = .non)/\(as≠[]->∃ lo hi,aI H v lo hi/\oy (as.map (·.1)) lo/\qG (as.map (·.2)) hi)
theorem filter_all(l:List V):l.filter (λ_=>true)=l:=Z7.mpr λ_ _=>rfl
open PySem
end
end Gz
namespace Gz
open PySem PySem.Spec PyProof.Rows L2
structure Ea(K:XW)(C:Ye)(m:Str)(f:Ye):Prop where
 ga:acq K (.ref C) "__getattribute__" = some (some (.builtin "type.__getattribute__"))
 rd:ae8 K C (.type "type")=true
 fd:ae9 K (.ref C) (.type "type") m=some (.val (.ref f))
 kp:Zx K (.ref f)=true
section
theorem Eb(hg:Gl X x)(hm:X.mg x=some (.ref C))(c:Ea X.K C m f)(F:dP X.prog X.w X.K X.mg X.base CX k f fd ps sp)(hr:bP k X.A)(hb:Binds X.K fd ps ds)(hd:Vals cC ds)(hx:Passes CX X E)(ha:PA X (e::es) t)(fY:(x == ("__debug__" : Str))=false:=by decide)(bV:Yv (e::es) X.env=(false,eval e X.env)::Yv es X.env:=by rfl)(eN:(ZZ pos (Yv es X.env)).any (·.1)=false:=by rfl)(ht:eval (.Call (.Attribute (.Name x p) m apos) (e::es) [] pos) X.env=(do
 let ov <- eval (.Name x p) X.env
 aeg apos.atName
 let (f,first) <- holding [ov] (adf ov m pl)
 afy pos f first (ZZ pos (Yv (e::es) X.env)) (adt pos (abp [] X.env))):=by rfl) :
 PE X (.Call (.Attribute (.Name x p) m apos) (e::es) [] pos) (qc sp cC E t):=by
 intro pins s σ H Q I h;refine aaH (pl:=pl) (aB (BQ (X:=X) (v:=.ref C) hg hm rfl fY pins s σ H (λv H1=>v = .ref C/\H1=H) I ⟨rfl,rfl⟩) λu s1 zq=>?_) ht;obtain⟨y,H1,I1,rx,e1,e2⟩:=zq;subst e1 e2;obtain rfl:u=YC C:=rx;refine PySem.W.method_cls I1.b6 c.ga (PySem.W.cls_value I1.b6 c.rd c.fd rfl ?_);have I2:Inv X pins σ H1 { s1 with toks:=s1.toks+1 }:=I1.tok _;refine abf (first:=[]) (h₀:=X.base) I.ok.mod.kin c.kp (aB (ha pos pins _ σ H1 _ I2 h) λus s2 ⟨vs,H2,I3,r,q2⟩=>⟨I3.b6,?_⟩) bV eN;exact qd (us:=us) (vs:=vs) F hr hb hd hx I3 r q2
def Ec(K:XW)(m:Str)(f:Ye)(sp:Sp)(cC:List V)(E:XK)(ta:TE)(t:TA):TE:=λσ H Q=>ta σ H λx H1=>∃ a C dx fs,x = .ref a/\H1 a=some (.ins C dx fs)/\b7 K C/\Meth K C m f/\fs.lookup m=none /\
 t σ H1 λvs H2=>sp (.ref a::(vs++cC)) H2 Q E
end
abbrev W2:=Option S2
def dW(H:Hp)(v:V):W2->Prop
 | none=>v = .non
 | some s=>aI H v s.1 s.2
theorem dW.same(h:dW H v w)(s:aj H H'):dW H' v w:=by
 cases w with
 | none=>exact h
 | some a=>exact aI.same h s
end Gz
namespace Gz
open PySem L2 PySem.W PySem.Spec PyProof.Rows
def Bt(n:Nat)(x:Int):Prop:=aau x<=n
theorem Bt.add(h:Bt n x)(h':Bt n y):Bt (n+1) (x+y):=by
 have:=afN h h'
 rwa [Nat.max_self] at this
theorem Bt.mul(h:Bt n x)(h':Bt m y):Bt (n+m) (x * y):=afO h h'
theorem Bt.up(h:Bt n x)(hm:n<=m):Bt m x:=X5 h hm
theorem Bt.small(h1 : -(2 ^ 64)<x)(h2:x<2 ^ 64):Bt 64 x:=PySem.intBits_le_64 h1 h2
def oz(i j:Int):Prop:=Bt 40000000 i/\Bt 40000000 j
theorem oz.ok(h:oz i j):IntMulOk i j:=afk h.1 h.2 (by decide)
theorem NU:a8 X (aaY .Mult) (rI oz λi j=>.int (i * j)):=t9 λ_ _ _ _ _ _ _ hc q=>mul_int q hc.ok
def gN(ns:List Int):Prop:=ns.length<=63/\∀ x∈ns,Bt 1048576 x
theorem weigh:∀ (ns:List Int) (x:Int),x∈ns->aau x<=aaw (ns.map aan)
 | [],x,h=>by simp at h
 | y::ns,x,h=>by
  have e:aaw ((y::ns).map aan)=(if y == 0 then 0 else y.natAbs.log2+1)+1+aaw (ns.map aan):=by rw[Ys];simp only[aaw,adB]
  rw[e];rcases Yi.mp h with rfl|h
  .unfold aau;lia
  .have:=weigh ns x h;lia
theorem NV{ns:List Int}(h:afu [PySem.W.WData.list (ns.map aan)]=true):∀ x∈ns,Bt 1048576 x:=by
 intro x hx;have h1:abA (PySem.W.WData.list (ns.map aan))=true:=by
  have:(abA (PySem.W.WData.list (ns.map aan)) && true)=true:=h
  rwa [Bool.and_true] at this
 unfold abA at h1;rw[ZF] at h1;have h2:=of_decide_eq_true h1.2;have h3:=weigh ns x hx;simp only[adB] at h2;unfold Bt;lia
theorem NW{l:adl}{k:Nat}{q:Y0}{loose:List Str}{XP:(Str->Option X7)->aax->Prop}{YP:Zw->aax->Prop}{d:DefRec}{K:Params->XW}{CX:Zw->fX}{sp:Zw->Sp}{x:Str}
 (most:l.most=some 63) (plain:d.params.defaults=[]) (room:bP k aeY)
 (NX:∀ (w:Zw) (h:aax),YP w h->(K w.params).In h)
 (F:∀ (w:Zw) (mg:Str->Option X7) (fa:Ye) (h:aax),(K w.params).In h->h.Ns Yw mg->mg d.name=some (.ref fa) ->
   ∃ fd:aa0,(∀ (s:Yd) (u:X7),ael s fd ⟨[u],[]⟩ [(x,u)]) /\
    ∀ base:aax,(K w.params).In base->base.Ns Yw mg->dP l.prog w (K w.params) mg base (CX w) k fa fd [x] (sp w))
 (law:∀ (w:Zw) (H:Hp) (a:Ye) (ns:List Int),gN ns->ai (K w.params) H a (ns.map V.int)->sp w [.ref a] H (λv _=>v = .bl true) λ_ _ _=>False)
 (calm:∀ (w:Zw) (H:Hp) (s:Yd) (e:X7) (s':Yd),CX w [] H s (λ_ _ _=>False) e s'->False) :
 afA q loose XP YP l.row.toRowW d [] (λf vs=>PySem.call f vs):=by
 intro w t₀ t mg mb G Y f ob pm cd doc dV kV look data code defs at_ gens args vals as pre lay _ well _;have e1:dV = .none:=Dflts.none defs plain;have e2:kV = .none:=Dflts.noKw defs;cases e1;cases e2;obtain⟨a,vs,ns,e3,e4,obj,are,len⟩:=w9.LM most pre well;cases e3;cases e4;have KX:=NX w _ Y;obtain⟨fd,bind,ok⟩:=F w mg f _ KX G.T.g at_;have run:=LQ KX G.T.g G.T.b G.T.builtins G.T.nolimit gens obj are (X5 len (by decide)) room ok bind
  (λH _ S=>law w H a ns ⟨len,NV lay⟩ S) λH e s'=>calm w H t e s'
 refine enter_call (aby run ?_);rintro r s' ⟨rfl,old,os,bare⟩;exact⟨.inl ⟨.bool true,.bool true,[],rfl,λ_=>rfl,.bool true,w9.LP l _,λ_=>⟨List.Pairwise.nil,λ_ z=>(nomatch z)⟩⟩,old,os,bare⟩
noncomputable def qH(ns:List Int)(k:Int):Int:=if 0<(ns.length:Int) then ns.getD (k % (ns.length:Int)).toNat 0 else 0
theorem NY(h:gN ns)(k:Int):Bt 1048576 (qH ns k):=by
 unfold qH;split
 .rw[XZ];cases e:ns[(k % (ns.length:Int)).toNat]? with
  | none=>exact (Bt.small (by decide) (by decide)).up (by decide)
  | some n=>exact h.2 _ (Yo e)
 .exact (Bt.small (by decide) (by decide)).up (by decide)
theorem NZ{ns:List Int}{k:Int}(h:0<(ns.length:Int)):cQ (ns.map V.int) (k % (ns.length:Int))=some (.int (qH ns k)):=by
 have h1:=afa k (show (ns.length:Int)≠0 by lia);have h2:=ad3 k h;unfold qH;rw[if_pos h];have ek:k % (ns.length:Int)=(((k % (ns.length:Int)).toNat:Nat):Int):=by lia
 refine (congrArg (cQ _) ek).trans (cY ?_);rw[Yf,XZ,X0 (by lia)];rfl
theorem Ed(h:x.natAbs<2 ^ 600):Bd 4000 x:=Bd.up (n:=600) h (by decide)
theorem mL(h:x.natAbs<2 ^ 600)(h':y.natAbs<2 ^ 600):ql x y:=⟨Ed h,Ed h'⟩
theorem aD(I:L2.St->Hp->Prop)(h1:∀ N:L2.St->Hp->Prop,(∀ σ H,I σ H->N σ H)->a { D with nx:=N } σ H)(h2:∀ R:TS,R=b->∀ σ H,I σ H->R D σ H):tY a b D σ H:=h1 _ (h2 _ rfl)
noncomputable def pre(f:P2->Int)(ps:List P2)(i:Nat):Int:=((ps.take i).map f).sum
theorem fI(f:P2->Int)(ps:List P2)(h:i<ps.length):pre f ps (i+1)=pre f ps i+f (aC ps i):=by unfold pre aC;rw[Zi,Zg,afb,XZ,X0 h];simp only[ad4,Ys,ab7,ad5,afP,Int.add_zero,aa3]
noncomputable def bA(ps:List P2)(i j:Nat):Int:=if i<=j then pre (·.2) ps j-pre (·.2) ps i else pre (·.1) ps j-pre (·.1) ps i
def cZ(ps:List P2):Prop:=∀ p∈ps,p.1<=p.2
theorem Ee(h:cZ ps)(i:Nat):∀ n,i+n<=ps.length->pre (·.1) ps (i+n)-pre (·.1) ps i<=pre (·.2) ps (i+n)-pre (·.2) ps i
 | 0,_=>by simp
 | n+1,hn=>by have ih:=Ee h i n (by lia);rw[show i+(n+1)=(i+n)+1 by lia,fI _ ps (by lia),fI _ ps (by lia)];have:=h _ (mJ (ps:=ps) (i:=i+n) (by lia));lia
theorem oA(h:cZ ps)(fG:i<=j)(hj:j<=ps.length):pre (·.1) ps j-pre (·.1) ps i<=pre (·.2) ps j-pre (·.2) ps i:=by
 have:=Ee h i (j-i) (by lia)
 rwa [show i+(j-i)=j by lia] at this
theorem N0(h:cZ ps)(hi:i<=ps.length)(hj:j<=ps.length)(hk:k<=ps.length):bA ps i j<=bA ps i k+bA ps k j:=by have a:=λh'=>oA h (i:=i) (j:=j) h' hj;have b:=λh'=>oA h (i:=j) (j:=i) h' hi;have c:=λh'=>oA h (i:=i) (j:=k) h' hk;have d:=λh'=>oA h (i:=k) (j:=i) h' hi;have e:=λh'=>oA h (i:=j) (j:=k) h' hk;have f:=λh'=>oA h (i:=k) (j:=j) h' hj;unfold bA;split<;>split<;>split<;>lia
noncomputable def part(ps:List P2)(i j k:Nat):Int:=if i<j then pre (·.2) ps (min i j+k)-pre (·.2) ps i else pre (·.1) ps j-pre (·.1) ps (min i j+k)
end Gz
namespace L2
open PySem PySem.Spec PyProof.Rows
section
variable{κ:Type}[DecidableEq κ]
noncomputable def fw(kvs:List (κ × V))(k:κ):Option V:=(kvs.find? λkv=>decide (kv.1=k)).map (·.2)
noncomputable def putK(kvs:List (κ × V))(k:κ)(v:V):List (κ × V) :=
 if (kvs.any λkv=>decide (kv.1=k))=true then kvs.map (λkv=>if kv.1=k then (kv.1,v) else kv) else kvs++[(k,v)]
noncomputable def N1(kvs:List (κ × V))(k:κ):List (κ × V):=kvs.filter λkv=>decide (kv.1≠k)
theorem uN{p:κ × V}{r:List (κ × V)}{k:κ}(e:p.1=k):fw (p::r) k=some p.2:=by simp[fw,ZC,e]
theorem uO{p:κ × V}{r:List (κ × V)}{k:κ}(e:¬ p.1=k):fw (p::r) k=fw r k:=by simp[fw,ZC,e]
theorem Ef(k:κ):∀ kvs:List (κ × V),(kvs.any λkv=>decide (kv.1=k))=(fw kvs k).isSome
 | []=>rfl
 | p::r=>by
  rw[Zn];by_cases e:p.1=k
  .simp only[uN e,decide_eq_true e,Bool.true_or,ad6]
  .rw[uO e,decide_eq_false e,afB];exact Ef k r
theorem Eg(kvs:List (κ × V))(k:κ)(v:V):(putK kvs k v).length<=kvs.length+1:=by
 unfold putK;split
 .rw[XY];omega
 .rw[Yh,YY,aaK];omega
theorem eX.xZ(r:eX o u):o.isSome=u.isSome:=by
 cases o with
 | none=>cases u with
  | none=>rfl
  | some _=>exact (show False from r).elim
 | some _=>cases u with
  | none=>exact (show False from r).elim
  | some _=>rfl
theorem KV.val(r:KV kvs vs)(k:κ):eX (fw kvs k) (aev vs k):=by
 unfold KV at r
 induction r with
 | nil=>exact aay
 | @cons p q ps qs h t ih =>
  obtain⟨h1,h2⟩:=h;by_cases e:p.1=k
  .have e':q.1=k:=h1.symm.trans e;have b:aev (q::qs) k=some q.2:=by simp[aev,ZC,e']
   rw[uN e,b];exact h2
  .have e':¬ q.1=k:=λz=>e (h1.trans z);have b:aev (q::qs) k=aev qs k:=by simp[aev,ZC,e']
   rw[uO e,b];exact ih
theorem KV.any(r:KV kvs vs)(k:κ):(kvs.any λkv=>decide (kv.1=k))=vs.any λkv=>decide (kv.1=k):=by
 unfold KV at r
 induction r with
 | nil=>rfl
 | cons h t ih=>rw[Zn,Zn,ih,h.1]
theorem KV.oB(r:KV kvs vs)(k:κ)(ry:RelV y u) :
 KV (kvs.map λkv=>if kv.1=k then (kv.1,y) else kv) (vs.map λkv=>if kv.1=k then (kv.1,u) else kv):=by
 unfold KV at r ⊢
 induction r with
 | nil=>exact .nil
 | @cons p q ps qs h t ih =>
  rw[Ys,Ys];refine .cons ?_ ih;obtain⟨h1,h2⟩:=h;by_cases e:p.1=k
  .rw[if_pos e,if_pos (h1.symm.trans e)];exact⟨h1,ry⟩
  .rw[if_neg e,if_neg (λz=>e (h1.trans z))];exact⟨h1,h2⟩
theorem KV.put(r:KV kvs vs)(k:κ)(ry:RelV y u):KV (putK kvs k y) (stored vs k u):=by
 unfold putK stored;rw[r.any k];by_cases e:(vs.any λkv=>decide (kv.1=k))=true
 .rw[if_pos e,if_pos e];exact r.oB k ry
 .rw[if_neg e,if_neg e];exact Paired.snoc r ⟨rfl,ry⟩
theorem KV.length(r:KV kvs vs):kvs.length=vs.length:=Paired.length r
end
theorem uP(r:RelV (kV k) u):(eW P w).is k u=true:=by
 cases k with
 | inl i=>obtain⟨t,e⟩:=(show ∃ t,u=aak i t from r);subst e;exact Ke P w i t
 | inr x=>obtain⟨t,e⟩:=(show ∃ t,u=adR x t from r);subst e;exact Kf P w x t
theorem Eh:∀ {ks:List Key} {us:List X7},Vals (ks.map kV) us->ItemsAre (eW P w) ks us
 | [],_,r=>by rw[ab7] at r;cases r;exact .nil
 | k::ks,_,r=>by
  rw[Ys] at r;cases r with
  | cons h t=>exact .cons (uP h) (Eh t)
abbrev KT(H:Hp):List (List Key × V)->List (List Key × Ye × X7)->Prop:=afI λp q=>p.1=q.1/\H q.2.1=some (.tup (p.1.map kV))/\RelV p.2 q.2.2
theorem KT.val(r:KT H kvs xs)(k:List Key):eX (fw kvs k) ((afQ xs k).map (·.2)):=by
 induction r with
 | nil=>exact aay
 | @cons p q ps qs h t ih =>
  obtain⟨h1,_,h2⟩:=h;by_cases e:p.1=k
  .have e':q.1=k:=h1.symm.trans e;have b:afQ (q::qs) k=some q.2:=by simp[afQ,ZC,e']
   rw[uN e,b];exact h2
  .have e':¬ q.1=k:=λz=>e (h1.trans z);have b:afQ (q::qs) k=afQ qs k:=by simp[afQ,ZC,e']
   rw[uO e,b];exact ih
theorem KT.oB(r:KT H kvs xs)(k:List Key)(ry:RelV y u) :
 KT H (kvs.map λkv=>if kv.1=k then (kv.1,y) else kv) (xs.map (putAt k u)):=by
 induction r with
 | nil=>exact .nil
 | @cons p q ps qs h t ih =>
  rw[Ys,Ys];refine .cons ?_ ih;obtain⟨h1,h2,h3⟩:=h;unfold putAt;by_cases e:p.1=k
  .rw[if_pos e,if_pos (h1.symm.trans e)];exact⟨h1,h2,ry⟩
  .rw[if_neg e,if_neg (λz=>e (h1.trans z))];exact⟨h1,h2,h3⟩
theorem KT.put(r:KT H kvs xs)(k:List Key)(hb:H b=some (.tup (k.map kV)))(ry:RelV y u) :
 KT H (putK kvs k y) (storedH xs k b u):=by
 have e:(kvs.any λkv=>decide (kv.1=k))=(afQ xs k).isSome:=by rw[Ef,(r.val k).xZ,aew]
 unfold putK storedH;rw[e];by_cases q:(afQ xs k).isSome=true
 .rw[if_pos q,if_pos q];exact r.oB k ry
 .rw[if_neg q,if_neg q];exact Paired.snoc r ⟨rfl,hb,ry⟩
theorem KT.keeps(r:KT H kvs xs)(ht:∀ b ys,H b=some (.tup ys)->H' b=some (.tup ys)):KT H' kvs xs :=
 Paired.wz r λ_ _ z=>⟨z.1,ht _ _ z.2.1,z.2.2⟩
section
theorem Ei(ok:bU P w H h)(e:Rd H a u):bK P w H h a u:=e.ok ok
theorem uQ(ok:bU P w H h)(e:Rd H a (.dK kvs)):kvs.length<=Yt/\(a == aab)=false/\∃ vs,KV kvs vs/\h.DictOf (eW P w) a vs :=
 show bK P w H h a (.dK kvs) from Ei ok e
theorem N2(ok:bU P w H h)(e:H a=some (.dK kvs)):kvs.length<=Yt/\(a == aab)=false/\∃ vs,KV kvs vs/\h.DictOf (eW P w) a vs:=uQ ok (.inl e)
theorem uR(ok:bU P w H h)(e:H a=some (.tup (ks.map kV))):(ac7 (eW P w)).is h ks a:=by
 obtain⟨_,aq,r,o,h1,h2,n,h3⟩:=(show bK P w H h a (.tup (ks.map kV)) from ok a _ e)
 exact⟨o,aq.toArray,n,h1,h2,h3,by simpa using Eh r⟩
theorem uS(ok:bU P w H h)(e:Rd H a (.dT kvs)):kvs.length<=Yt/\(a == aab)=false /\
 ∃ xs,KT H kvs xs/\h.DictOfH (ac7 (eW P w)) a xs:=by
 obtain⟨z,y,xs,r,o,es,ep,h1,h2,h3,h4,h5⟩:=(show bK P w H h a (.dT kvs) from Ei ok e)
 refine⟨z,y,xs,r,o,es,ep,h1,h2,h3,h4,λx hx=>?_,h5⟩;have all:∀ {l:List (List Key × V)} {m:List (List Key × Ye × X7)},KT H l m->∀ x∈m,(ac7 (eW P w)).is h x.1 x.2.1:=by
  intro l m q
  induction q with
  | nil=>intro x hx;exact nomatch hx
  | @cons p q ps qs hq t ih =>
   intro x hx;rcases Yi.mp hx with e|hx
   .subst e;exact uR ok (by rw[<- hq.1];exact hq.2.1)
   .exact ih x hx
 exact all r x hx
theorem Ej(ok:bU P w H h)(e:H a=some (.dT kvs)):kvs.length<=Yt/\(a == aab)=false /\
 ∃ xs,KT H kvs xs/\h.DictOfH (ac7 (eW P w)) a xs:=uS ok (.inl e)
end
def fb(H:Hp)(a:Ye)(y:V)(r:Option V):Prop :=
 (∃ kvs k,Rd H a (.dK kvs)/\y=kV k/\r=fw kvs k) ∨ ∃ kvs k b,Rd H a (.dT kvs)/\y = .ref b/\H b=some (.tup (k.map kV))/\r=fw kvs k
def oE(H:Hp)(a:Ye)(y v:V)(H':Hp):Prop :=
 (∃ kvs k,H a=some (.dK kvs)/\y=kV k/\kvs.length<Yt/\H'=upd H a (.dK (putK kvs k v))) ∨
 ∃ kvs k b,H a=some (.dT kvs)/\y = .ref b/\H b=some (.tup (k.map kV))/\kvs.length<Yt/\H'=upd H a (.dT (putK kvs k v))
theorem fb.t(e:H a=some (.dT kvs))(eb:H b=some (.tup (k.map kV))):fb H a (.ref b) (fw kvs k):=.inr ⟨kvs,k,b,.inl e,rfl,eb,rfl⟩
theorem oE.t(e:H a=some (.dT kvs))(eb:H b=some (.tup (k.map kV)))(hl:kvs.length<Yt) :
 oE H a (.ref b) v (upd H a (.dT (putK kvs k v))):=.inr ⟨kvs,k,b,e,rfl,eb,hl,rfl⟩
section
theorem N3(hu:A.units+1<adh)(I:Inv X pins σ H s)(g:fb H a y (some v))(ry:RelV y u)(h:∀ w' s',Inv X pins σ H s'->RelV v w'->Q w' s') :
 Yr (model X.prog X.w) A (aeT (.ref a) u) Q E s:=by
 rcases g with ⟨kvs,k,e,ey,l⟩|⟨kvs,k,b,e,ey,eb,l⟩
 .subst ey;obtain⟨z,hd,vs,rel,dd⟩:=uQ I.az e;obtain⟨w',hw,jT⟩:=eX.some_of (v:=v) (o:=aev vs k) (by rw[l];exact rel.val k);exact wpAny_getItem_of (uP ry) dd.mapOf hw (h w' _ (I.tok _) jT)
 .subst ey;cases (show u=YC b from ry);obtain⟨z,hd,xs,rel,dd⟩:=uS I.az e;obtain⟨w',hw,jT⟩:=eX.some_of (v:=v) (o:=(afQ xs k).map (·.2)) (by rw[l];exact rel.val k);obtain⟨p,hp,fJ⟩:=YJ.mp hw;refine wpAny_getItem_heap (aaC hu) (uR I.az eb) dd hp ?_;rw[fJ];exact h w' _ (I.tok _) jT
theorem N4(hu:A.units+1<adh)(I:Inv X pins σ H s)(g:fb H a y o)(ry:RelV y u)(h:∀ s',Inv X pins σ H s'->Q (.bool (!o.isSome)) s') :
 Yr (model X.prog X.w) A (Zd .NotIn u (.ref a)) Q E s:=by
 rcases g with ⟨kvs,k,e,ey,l⟩|⟨kvs,k,b,e,ey,eb,l⟩
 .subst ey;obtain⟨z,hd,vs,rel,dd⟩:=uQ I.az e;refine wpAny_notIn_of (uP ry) hd dd.mapOf ?_;rw[<- (rel.val k).xZ,<- l];exact h _ (I.tok _)
 .subst ey;cases (show u=YC b from ry);obtain⟨z,hd,xs,rel,dd⟩:=uS I.az e;refine wpAny_notIn_heap (aaC hu) (uR I.az eb) hd dd ?_;have q:=(rel.val k).xZ;rw[aew] at q;rw[<- q,<- l];exact h _ (I.tok _)
theorem Ek(I:Inv X pins σ H s)(mu:pL (H a))(hs:Heap.SameBut a s.heap h')(he:∃ q,h'.get? a=some q)(new:bK X.prog X.w (upd H a ob) h' a ob) :
 Inv X pins σ (upd H a ob) { s with heap:=h',toks:=t' } :=
 I.write (x:=a) (e:=a) mu (.inl rfl) (λb q hb z=>(hs.2 b hb).trans z) he new
theorem El(z:kvs.length<=Yt)(hd:(a == aab)=false)(rel:KV kvs vs)(dd:h'.DictOf (eW P w) a vs) :
 bK P w H' h' a (.dK kvs):=⟨z,hd,vs,rel,dd⟩
theorem N5(hu:A.units+1<adh)(I:Inv X pins σ H s)(g:oE H a y v H')(ry:RelV y u)(rv:RelV v r)(h:∀ s',Inv X pins σ H' s'->Q () s') :
 Yr (model X.prog X.w) A (setItem (.ref a) u r) Q E s:=by
 rcases g with ⟨kvs,k,e,ey,l,eH⟩|⟨kvs,k,b,e,ey,eb,l,eH⟩
 .subst ey eH;obtain⟨z,hd,vs,rel,dd⟩:=N2 I.az e;have hz:vs.length<=Yt:=by rw[<- rel.length];exact z
  have hl:(putK kvs k v).length<=Yt:=by have:=Eg kvs k v;omega
  refine wpAny_setItem_pairs (hsz:=hz) (uP ry) dd λh' uT hs=>h _ ?_;have he:∃ q,h'.get? a=some q:=let ⟨q,_,_,hq,_⟩:=uT;⟨q,hq⟩;exact Ek I (by rw[e];exact aay) hs he (El hl hd (rel.put k rv) uT)
 .subst ey eH;cases (show u=YC b from ry);obtain⟨z,hd,xs,rel,dd⟩:=Ej I.az e;have hz:xs.length<=Yt:=by rw[<- Paired.length rel];exact z
  have hl:(putK kvs k v).length<=Yt:=by have:=Eg kvs k v;omega
  refine wpAny_setItem_heap (hsz:=hz) (aaC hu) (uR I.az eb) dd λh' uT hs=>h _ ?_;obtain⟨q,es,ep,hq,h2,h3,h4,_,h5⟩:=uT;refine Ek I (by rw[e];exact aay) hs ⟨q,hq⟩ ⟨hl,hd,_,(rel.put k eb rv).keeps λc ys ec=>?_,q,es,ep,hq,h2,h3,h4,h5⟩;rw[aG (nM ec e (λz=>nomatch z))];exact ec
end
def x3(i:abD):Prop:=∀ ov iv,subscripted i false ov iv=operate [ov,iv] (aeT ov iv)
theorem N6{prog:Y0}{w:Zw}{A:ZP}{E:X7->Yd->Prop}{s:Yd}{env:Env}{value slice:abD}{pos:Pos}{T id:String}{Q:X7->Yd->Prop}
 (hl:aen (.type T) "__getitem__" = pure (some (.builtin id))) (hs:x3 slice)
 (h:Yr (model prog w) A (eval value env) (λo s₁=>Yr (model prog w) A (eval slice env) (λi s₂=>s₂.TypeIs o T/\Yr (model prog w) A (aeT o i) Q E s₂) E s₁) E s) :
 Yr (model prog w) A (eval (.Subscript value slice pos) env) Q E s:=by
 refine aeo (Zl h (λo s₁ h₁=>Zl h₁ (λi s₂ h₂=>?_) λ_ _ x=>x) λ_ _ x=>x);obtain⟨hT,h₂⟩:=h₂;unfold acG;refine XX ?_;rw[getitemInPython_of_ne hT.not_modules];refine XX (abU hT hl ?_);have fin:Yr (model prog w) A (subscripted slice false o i) (λr s₃=>Yr (model prog w) A (letTemporaryGo value o r >>= λ_=>pure r) Q E s₃) E s₂:=by rw[hs o i];exact wpAny_operating (Zl h₂ (λr s₃ h₃=>XX (wpAny_letTemporaryGo (X3 h₃))) λ_ _ x=>x)
 first
  | exact X3 (XX fin)
  | exact XX (X3 (XX fin))
  | exact XX fin
theorem N7(I:Inv X pins σ H s)(g:fb H a y o):s.TypeIs (.ref a) "dict" := by
 rcases g with ⟨kvs,k,e,_,_⟩|⟨kvs,k,b,e,_,_,_⟩
 .obtain⟨_,_,vs,_,dd⟩:=uQ I.az e;exact dd.typeIs
 .obtain⟨_,_,xs,_,dd⟩:=uS I.az e;exact dd.typeIs
def x4(td ty:TE):TE:=λσ H Q=>td σ H λx H1=>ty σ H1 λy H2=>∃ a v,x = .ref a/\fb H2 a y (some v)/\Q v H2
def N8(ty td:TE):TE:=λσ H Q=>ty σ H λy H1=>td σ H1 λx H2=>∃ a o,x = .ref a/\fb H2 a y o/\Q (.bl o.isSome) H2
def Em(ty td:TE):TE:=λσ H Q=>ty σ H λy H1=>td σ H1 λx H2=>∃ a o,x = .ref a/\fb H2 a y o/\Q (.bl (!o.isSome)) H2
def Eo(td ty tv:TE):TS:=λD σ H=>tv σ H λv H1=>td σ H1 λx H2=>ty σ H2 λy H3=>∃ a H4,x = .ref a/\oE H3 a y v H4/\D.nx σ H4
section
theorem uU(hu:X.A.units+1<adh)(ho:PE X o td)(hi:PE X i ty)(hs:x3 i):PE X (.Subscript o i pos) (x4 td ty):=by intro pins s σ H Q I h;refine N6 PySem.F.slot_dict_getitem.lookup hs (aB (ho pins s σ H _ I h) λu s1 ⟨x,H1,I1,rx,q1⟩=>aB (hi pins s1 σ H1 _ I1 q1) λiv s2 zq=>?_);obtain⟨y,H2,I2,ry,a,v,ex,g,q2⟩:=zq;subst ex;obtain rfl:u=YC a:=rx;exact⟨N7 I2 g,N3 hu I2 g ry λw' s3 I3 jT=>⟨v,H2,I3,jT,q2⟩⟩
theorem Oa(hu:X.A.units+1<adh)(hi:PE X i ty)(ho:PE X o td):PC X .NotIn i o (Em ty td):=by
 intro pins s σ H Q I h;refine aB (hi pins s σ H _ I h) λiv s1 ⟨y,H1,I1,ry,q1⟩=>aB (ho pins s1 σ H1 _ I1 q1) λu s2 zq=>?_;obtain⟨x,H2,I2,rx,a,ov,ex,g,q2⟩:=zq;subst ex;obtain rfl:u=YC a:=rx;exact N4 hu I2 g ry λs3 I3=>⟨.bl (!ov.isSome),H2,I3,rfl,q2⟩
theorem Ep(hu:X.A.units+1<adh)(ho:PE X o td)(hi:PE X i ty)(hv:PE X value tv)(hs:abL value (some (.Subscript o i pos')) pos.line X.env=pure false) :
 PS X (.Assign [.Subscript o i pos'] value pos) (Eo td ty tv):=by
 intro pins s σ H D I h;refine wpAny_Assign_Subscript (aB (hv pins s σ H _ I h) λr s1 ⟨v,H1,I1,rv,q1⟩=>aB (ho pins s1 σ H1 _ I1 q1) λu s2 ⟨x,H2,I2,rx,q2⟩=>aB (hi pins s2 σ H2 _ I2 q2) λiv s3 zq=>?_) hs;obtain⟨y,H3,I3,ry,a,H4,ex,g,q3⟩:=zq;subst ex;obtain rfl:u=YC a:=rx;exact N5 hu I3 g ry rv λs4 I4=>⟨σ,H4,I4,q3⟩
end
structure M1(X:Cx)(o:abD)(m:Str)(apos:Pos)(e:abD)(da:Pos):Prop where
 base:abe o m X.env (eval o X.env)=eval o X.env
 few:((ZZ da (Yv [e] X.env)).all (λx=>!x.1) && (adt da (abp [] X.env)).all (λx=>x.1.isSome)
  && decide (([e]:List abD).length+([]:List aeX).length+(if ([]:List aeX).isEmpty then 0 else 1)<30))=true
 line:(apos.endLine == da.line)=true
 trees:ZZ da (Yv [e] X.env)=[(false,eval e X.env)]
structure M2(X:Cx)(o:abD)(m:Str)(apos:Pos)(e f:abD)(da:Pos):Prop where
 base:abe o m X.env (eval o X.env)=eval o X.env
 few:((ZZ da (Yv [e,f] X.env)).all (λx=>!x.1) && (adt da (abp [] X.env)).all (λx=>x.1.isSome)
  && decide (([e,f]:List abD).length+([]:List aeX).length+(if ([]:List aeX).isEmpty then 0 else 1)<30))=true
 line:(apos.endLine == da.line)=true
 trees:ZZ da (Yv [e,f] X.env)=[(false,eval e X.env),(false,eval f X.env)]
def Ob(H:Hp)(a:Ye):Prop:=(∃ kvs,Rd H a (.dK kvs)) ∨ ∃ kvs,Rd H a (.dT kvs)
section
end
section
variable{κ:Type}[DecidableEq κ]
theorem Er:∀ {l:List κ} {k:κ},l.Nodup->¬ k∈l->(l++[k]).Nodup
 | [],k,_,_=>by simp
 | a::r,k,h,hk=>by
  obtain⟨h1,h2⟩:=Zq.mp h;show (a::(r++[k])).Nodup;refine Zq.mpr ⟨λm=>?_,Er h2 λm=>hk (Yi.mpr (aeE m))⟩;rcases Yz.mp m with q|q
  .exact h1 q
  .exact hk (Yi.mpr (abz (YG.mp q).symm))
end
end L2
namespace Gz
open PySem PySem.Spec PyProof.Rows L2
def bits(bs:List Int):Prop:=∀ x∈bs,x=0∨x=1
theorem Oc(hx:H x=none)(hd:H dx=none)(hn:dx≠x):aj H (upd (upd H dx (.own x)) x (.ins C dx fs)) :=
 (ao hd).trans (ao (by rw[aG (Y1 hn)];exact hx))
abbrev Lk:=Option (List Int)
def Od(xs:List Ye)(H:Hp)(v:V):Lk->Prop
 | none=>v = .non
 | some bs=>∃ l,v = .ref l/\l∉xs/\H l=some (.lst (bs.map V.int))
abbrev IsL:=Od []
local macro_rules | `(tactic| walk_at "o") => `(tactic| ((try simp only [PySem.Addr] at *); lia))
section
variable{κ:Type}[DecidableEq κ]
end
section
variable{prog:Y0}{w:Zw}{K:Type}[DecidableEq K]{knd:HeapKind prog w K}{A:ZP}{E:X7->Yd->Prop}{s:Yd}
end
def fK(h:aax)(d:Ye)(es:Array abP)(ep:Nat):Prop:=∃ o,h.get? d=some o/\o.ExactDict/\o.data = .dict es ep
theorem fK.at(x:fK h d es ep)(e:∀ o,h.get? d=some o->h'.get? d=some o):fK h' d es ep:=let ⟨o,ho,r⟩:=x;⟨o,e o ho,r⟩
theorem fK.lt(x:fK h d es ep):d<h.objs.size:=let ⟨_,ho,_⟩:=x;X4 ho
theorem fK.ty{s:Yd}{d:Ye}{es:Array abP}{ep:Nat}(x:fK s.heap d es ep):s.TypeIs (.ref d) "dict" := let ⟨o,ho,hc,_⟩:=x;⟨o,ho,hc.1⟩
section
variable{prog:Y0}{w:Zw}{A:ZP}{E:X7->Yd->Prop}{s:Yd}{d it:Ye}{es:Array abP}{i ep:Nat}
theorem Es(lo:(d == aab)=false)(x:fK s.heap d es ep)(q:Q (.ref s.heap.objs.size) { s with heap:=s.heap.push { cls:=.type "dict_keyiterator",data:=.fields #[.ref d,.int 0 0,.int es.size 0,.int ep 0] } }):Yr (model prog w) A (afK (.ref d)) Q E s:=by have T:=x.ty;obtain⟨o,ho,hc,hq⟩:=x;refine acx T ac3 (Zj ac3 T PySem.F.entry_dict_iter ?_ (PySem.F.args_dict_iter_1 _));unfold aaJ.«dict.__iter__»;refine XX ?_;unfold Builtin.Dict.dictSlotNone;refine XX (wpAny_notOrdered_dict T ?_);refine X3 (a:=YC d) ?_;show Yr _ A.in1 (Builtin.Dict.showsAll d >>= _) _ _ s;unfold Builtin.Dict.showsAll;rw[if_neg (by rw[lo];exact Yq)];refine XX (X3 (XX (acy ho hq (XX (adm ho hq ?_)))));refine XX (Y5 (X3 ⟨_,rfl,"dict_keyiterator",_,⟨_,Ya _ rfl,rfl⟩,PySem.F.slot_dict_keyiterator_next.lookup,?_⟩));simpa [abj] using q
theorem Et(hit:s.heap.IsKeyIter it d i es.size ep)(x:fK s.heap d es ep)(hi:i<es.size)(q:∀ h',h'.IsKeyIter it d (i+1) es.size ep->Heap.SameBut it s.heap h'->Q (some es[i].key) { s with heap:=h' }):Yr (model prog w) A (aaE (.ref it)) Q E s:=by
 obtain⟨o,ho,hc,hd⟩:=id hit;obtain⟨od,hod,fq,hdd⟩:=x;have T:=hit.typeIs;unfold aaE;refine XX (abg (ZD (name:=ZI "__next__") T Zv (Zj Zv T aa7 ?_ (aaV _))));refine XX (X3 (XX (XX ?_)))
 first|refine XX (ZV T (X3 (XX (aaW ho hd ?_))))|refine XX (aao T (X3 (XX (aaW ho hd ?_))))
 have ow:Builtin.Dict_items.ownsTuple "dict_keyiterator" = false:=by decide
 simp only[ow,Yu,if_false];show Yr _ A.in1 (if (YC d == Value.none)=true then _ else _) _ _ s;rw[if_neg (show ¬ (YC d == Value.none)=true from Yq)];refine XX (X3 (XX (acy hod hdd ?_)));rw[if_neg (by simp)];refine XX (X3 (XX (adm hod hdd ?_)));rw[if_neg (by simp)];refine X3 ?_;simp only[show ¬ (i:Int)<0 by lia,if_false,YS,YK hi];refine XX ?_
 first|refine XX (ZV T (X3 (XX (abB T ?_))))|refine XX (aao T (X3 (XX (abB T ?_))))
 show Yr _ A.in1 (aeO (.ref it) 1 (abj ((i:Int)+1)) >>= _) _ _ s;refine XX (abw ho hd (by simp) ?_);have j6:(s.heap.update it (aaP (·.setIfInBounds 1 (abj ((i:Int)+1))))).IsKeyIter it d (i+1) es.size ep:=⟨_,YQ _ ho (Obj.isFreed_of_fields (ad7 hd _)),(Obj.cls_mapFields ..).trans hc,by rw[ad7 hd];simp[abj]⟩
 refine XX (Zz (XX (abB (s:={ s with heap:=s.heap.update it (aaP (·.setIfInBounds 1 (abj ((i:Int)+1)))) }) j6.typeIs ?_)));show Yr _ A.in1 (pure es[i].key) _ _ _;exact X3 (X3 ⟨_,rfl,X3 (q _ j6 (Zs ..))⟩)
theorem Eu(hh:A.handled=none)(hit:s.heap.IsKeyIter it d es.size es.size ep)(x:fK s.heap d es ep)(q:∀ h',afc it s.heap h'->Q none { s with heap:=h' }):Yr (model prog w) A (aaE (.ref it)) Q E s:=by
 obtain⟨o,ho,hc,hd⟩:=id hit;obtain⟨od,hod,fq,hdd⟩:=x;have T:=hit.typeIs;unfold aaE;refine XX (abg (ZD (name:=ZI "__next__") T Zv (Zj Zv T aa7 ?_ (aaV _))));refine XX (X3 (XX (XX ?_)))
 first|refine XX (ZV T (X3 (XX (aaW ho hd ?_))))|refine XX (aao T (X3 (XX (aaW ho hd ?_))))
 have ow:Builtin.Dict_items.ownsTuple "dict_keyiterator" = false:=by decide
 simp only[ow,Yu,if_false];show Yr _ A.in1 (if (YC d == Value.none)=true then _ else _) _ _ s;rw[if_neg (show ¬ (YC d == Value.none)=true from Yq)];refine XX (X3 (XX (acy hod hdd ?_)));rw[if_neg (by simp)];refine XX (X3 (XX (adm hod hdd ?_)));rw[if_neg (by simp)];refine X3 ?_;simp only[show ¬ (es.size:Int)<0 by lia,if_false,YS,aaA (X9 es.size)];refine XX ?_
 first|refine XX (ZV T (X3 ?_))|refine XX (aao T (X3 ?_))
 show Yr _ A.in1 (aeO (.ref it) 0 .none >>= _) _ _ s;refine XX (abw ho hd (by simp) ?_);show Yr _ A.in1 (newExc (.type "StopIteration") [] >>= _) _ _ _;refine XX ?_;simp only[newExc,afC];refine XX (Y5 ?_ (by size_fits));refine XX (m:=acf _ _) (acJ (a:=Value.none) (by first|rfl|(simp only[acf];rfl)) ?_);refine Y5 ?_ (by size_fits);simp only[raiseNew];refine XX (wpAny_handled ?_);rw[show A.in1.handled=none from hh];refine XX (X3 (wpAny_throw ?_));refine XX (aa4 (T := "StopIteration") (b:=true) ⟨_,Ya _ rfl,rfl⟩ adF ?_);exact X3 (q _ (((Zs ..).extBut.push _).push _))
theorem Oe(hh:A.handled=none)(I d:Ye)(a7:d≠I)(es:Array abP)(ep:Nat) :
 Walks prog w A I [I,d] [I] es.size (λi v=>∃ e,es[i]?=some e/\v=e.key) (λi h=>h.IsKeyIter I d i es.size ep/\fK h d es ep) where
 sub:=λb hb=>by simp at hb;simp[hb]
 frame:=λ_ _ _ st hk=>⟨st.1.at λo e=>hk I (by simp) o e,st.2.at λo e=>hk d (by simp) o e⟩
 item:=λi s Q E hi st hQ=>by refine Et st.1 st.2 hi λh' j6 lp=>?_;exact hQ _ h' s.toks ⟨es[i],YK hi,rfl⟩ ⟨j6,st.2.at λo e=>lp.extBut d o a7 e⟩ λb o hb e=>lp.extBut b o (λh=>hb (by simp[h])) e
 done:=λs Q E st hQ=>Eu hh st.1 st.2 λh' oF=>hQ h' s.toks λb o hb e=>oF b o (λh=>hb (by simp[h])) e
 self:=λ_ _ _ _ st hQ=>adC st.1 hQ
theorem Of(lo:(d == aab)=false):adG prog w "dict" d d es.size (λi v=>∃ e,es[i]?=some e/\v=e.key) (λh=>fK h d es ep) where
 type:=λ_ x=>x.ty
 there:=λ_ x=>⟨x.lt,x.lt⟩
 keep:=λ_ _ x hk=>x.at λo e=>hk d (.inl rfl) o e
 notList:=by decide
 notTuple:=by decide
 hint:=λ_ _ _ _ x hq=>PySem.W.kdl_hint_dict x.ty hq
 iter:=λ_ _ hh x=>⟨_,_,(λ_ _ hq=>Es lo x hq),Oe hh _ d (Yk x.lt) es ep,⟨⟨_,Ya _ rfl,rfl,rfl⟩,x.at λo e=>X2 _ e⟩⟩
end
section
def mM(h:aax)(vs:List X7)(kis:List (List Int))(i:Nat):Prop:=∃ (p:Ye) (o:Obj) (aq:List X7) (m:Nat),vs[i]?=some (.ref p)/\h.get? p=some o/\o.cls = .type "tuple" /\ o.data = .seq aq.toArray m/\acF aq (kis.getD i [])/\aq≠[]
theorem mM.keep(x:mM h vs kis i)(k:∀ b o,h.get? b=some o->(∀ n xs,o≠aaD "list" xs n)->h'.get? b=some o):mM h' vs kis i:=by obtain⟨p,o,aq,m,h1,h2,h3,r⟩:=x;exact⟨p,o,aq,m,h1,k p o h2 (λn xs z=>by rw[z] at h3;exact absurd (Value.type.inj h3) (by decide)),h3,r⟩
theorem Og(h:acF aq ns)(hn:aq≠[]):∃ i t,aq[0]?=some (.int i t):=by
 cases h with
 | nil=>exact absurd rfl hn
 | cons=>exact⟨_,_,rfl⟩
theorem Ew:∀ (vs:List X7) (kis:List (List Int)),kis.length=vs.length->(∀ i,i<vs.length->mM h vs kis i)->∃ fs,PySem.W.KatTups h vs fs/\fs.length=vs.length/\∀ v∈fs,∃ i t,v = .int i t
 | [],_,_,_=>⟨[],PySem.W.KatTups.nil,rfl,λv z=>by simp at z⟩
 | v::vs,[],e,_=>by simp at e
 | v::vs,k::kis,e,hh=>by
  obtain⟨p,o,aq,m,h1,h2,h3,h4,h5,h6⟩:=hh 0 (by simp);have ot:v = .ref p:=by simpa using h1
  subst ot;obtain⟨i,t,hf⟩:=Og h5 h6;obtain⟨fs,a1,a2,a3⟩:=Ew vs kis (by simpa using e) λi hi=>by obtain⟨p,o,aq,m,h1,r⟩:=hh (i+1) (by simpa using hi);exact⟨p,o,aq,m,by simpa using h1,by simpa using r⟩
  refine⟨.int i t::fs,PySem.W.KatTups.cons h2 h3 h4 (by simpa using hf) a1,by simp[a2],λv hv=>?_⟩;rcases Yi.mp hv with z|z
  .exact⟨i,t,z⟩
  .exact a3 v z
def uV(prog:Y0)(w:Zw)(h:aax)(vs:List X7)(kis:List (List Int)):Prop :=
 2<=vs.length->∃ κ,∀ (A:ZP) (E:X7->Yd->Prop) (s:Yd),s.heap=h->(∀ Q:SortKind->Yd->Prop,Q κ s->Yr (model prog w) A (keyKind' vs.toArray) Q E s) /\
  ∀ i j,i<vs.length->j<vs.length->∀ C:Bool->Yd->Prop,C (cN kis i j) s->Yr (model prog w) A (keyLt' κ (vs.getD i Value.none) (vs.getD j Value.none)) C E s
theorem Oh(ho:s.heap.get? a=some (aaD "list" vs.toArray n))(hl:kis.length=vs.length)(dw:vs.length<64)(hk:∀ g:aax,(∀ b o,(∀ n xs,o≠aaD "list" xs n)->s.heap.get? b=some o->g.get? b=some o)->uV prog w g vs kis)(fin:∀ h',(∀ b o,b≠a->s.heap.get? b=some o->h'.get? b=some o)->(∃ c,h'.get? a=some (aaD "list" (aah ((cG (cN kis) vs.length).toList.map λi=>vs.getD i Value.none)) c))->P (.done (.ret .none)) { s with heap:=h' }) :
 Yr (model prog w) A (aaJ.«list.sort» ⟨[.ref a],[]⟩) P E s:=by
 rw[list_sort_plain];have la:a<s.heap.objs.size:=X4 ho;refine XX (listItems_at ho rfl (XX (ad8 ho rfl ?_ (by rw[Yg,abo];walk_at "o") (YB _))));obtain⟨e1,oa⟩:∃ e1,(s.heap.update a (Zm λ_=>(#[]:Array X7))).get? a=some (aaD "list" #[] e1):=⟨_,afd ho λ_=>#[]⟩
 have keep:∀ b o,b≠a->s.heap.get? b=some o->(s.heap.update a (Zm λ_=>(#[]:Array X7))).get? b=some o:=λb o z e=>(Yl _ _ (Y1 z)).trans e;refine XX (afe oa rfl ?_);generalize s.heap.update a (Zm λ_=>(#[]:Array X7))=g at oa keep ⊢;refine XX (wpAny_newTuple ?_ (by show vs.length<=_;rw[abo];walk_at "o"));refine XX (wpAny_newList ?_ (YB _));refine Zz ?_;show Yr (model prog w) A _ P E { s with heap:=(g.push (aaD "tuple" vs.toArray 0)).push (aaD "list" #[] 0) };have oG:((g.push (aaD "tuple" vs.toArray 0)).push (aaD "list" #[] 0)).get? a=some (aaD "list" #[] e1):=X2 _ (X2 _ oa);have x5:∀ b o,b≠a->s.heap.get? b=some o->((g.push (aaD "tuple" vs.toArray 0)).push (aaD "list" #[] 0)).get? b=some o:=λb o z e=>X2 _ (X2 _ (keep b o z e));generalize (g.push (aaD "tuple" vs.toArray 0)).push (aaD "list" #[] 0)=g2 at oG x5 ⊢;dsimp only;have neT:∀ b o,s.heap.get? b=some o->(∀ n xs,o≠aaD "list" xs n)->b≠a:=λb o e z y=>by rw[y,ho] at e;cases e;exact z _ _ rfl
 have uW:((cG (cN kis) vs.length).toList.map λi=>vs.getD i Value.none).length=vs.length:=by rw[XY,(oq (n:=vs.length) (mK kis)).1.length_eq,Yb]
 have sz:(aah ((cG (cN kis) vs.length).toList.map λi=>vs.getD i Value.none)).size<=Yt+1:=by rw[Yg,uW,abo];walk_at "o"
 have done:P (.done (.ret .none)) { s with heap:=g2.update a (Zm λ_=>aah ((cG (cN kis) vs.length).toList.map λi=>vs.getD i Value.none)) } :=
  fin _ (λb o z e=>(Yl _ _ (Y1 z)).trans (x5 b o z e)) ⟨_,afd oG λ_=>_⟩
 by_cases h2:vs.toArray.size<2
 .rw[if_pos h2,if_pos h2];refine XX (X3 ?_);rw[StateT.run_pure];refine XX (X3 ?_);dsimp only;have self:(Yn vs.length).map (λi=>vs.getD i Value.none)=vs:=by
   apply acT
   .simp
   .intro i h1 h2;simp[XZ,h2]
  have e0:(arrOf (SortSt.mk' general' (vs.toArray.zip vs.toArray) #[] 7 none)).map (·.2)=aah ((cG (cN kis) vs.length).toList.map λi=>vs.getD i Value.none):=by unfold cG;rw[if_pos (by simpa using h2)];apply Array.toList_inj.mp;rw[show (Yn vs.length).toArray.toList=Yn vs.length from rfl,self];show ((vs.toArray.zip vs.toArray).map (·.2)).toList=_;simp[List.map_snd_zip]
  rw[e0];refine XX (afe oG rfl (XX (ad8 oG rfl ?_ (YB _) sz)));simp only[bne_self_eq_false,Yu,if_false];exact X3 done
 .rw[if_neg h2,if_neg h2];have qC:2<=vs.length:=by rw[Yg] at h2;walk_at "o"
  obtain⟨κ,hκ⟩:=hk g2 (λb o z e=>x5 b o (neT b o e z) e) qC;refine XX ((hκ A E { s with heap:=g2 } rfl).1 _ ?_);have ask:(PySem.W.kas_sort vs.length).kasWp (PySem.W.kas_ask prog w A κ vs) (λp s'=>s' = { s with heap:=g2 }/\p=cG (cN kis) vs.length) { s with heap:=g2 }:=by
   have pv:=D2 _ (D0 (n:=vs.length) (mK kis) (by walk_at "o"));refine DU (lt:=cN kis) (n:=vs.length) (Ok:=λs'=>s' = { s with heap:=g2 }) (λi j C s' hi hj e q=>?_) (λp s' e q=>⟨e,?_⟩) _ _ rfl pv
   .subst e;exact (hκ _ _ _ rfl).2 i j hi hj C (q _ rfl)
   .rw[q];unfold cG;rw[if_neg (by walk_at "o")]
  refine XX (Zl (PySem.W.kat_run (κ:=κ) (ks:=vs) (vs:=vs) (Q:=λst s'=>s' = { s with heap:=g2 }/\arrOf st=(cG (cN kis) vs.length).map (PySem.W.kas_item (vs.toArray.zip vs.toArray))/\failedOf st=none)
   rfl qC dw (λp st s' b1 b2 b3 b4=>⟨b4.1,by rw[b2,b4.2],b3⟩) ask) ?_ λ_ _ z=>z)
  rintro ⟨⟨⟩,st⟩ s' ⟨rfl,har,hf⟩;dsimp only;rw[PySem.W.kat_snds rfl har];refine XX (afe oG rfl (XX (ad8 oG rfl ?_ (YB _) sz)));rw[hf];simp only[bne_self_eq_false,Yu,if_false];exact X3 done
theorem Ex(hl:kis.length=vs.length)(dw:vs.length<64)(hk:∀ g:aax,(∀ b o,(∀ n xs,o≠aaD "list" xs n)->s.heap.get? b=some o->g.get? b=some o)->uV prog w g vs kis)(qI:∀ (A':ZP) (Q':List X7->Yd->Prop) (E':X7->Yd->Prop),A'.handled=A.handled->(∀ h' tk,(∀ b o,s.heap.get? b=some o->h'.get? b=some o)->s.heap.objs.size<=h'.objs.size->Q' vs { s with heap:=h',toks:=tk })->Yr (model prog w) A' (collect (.ref r)) Q' E' s)(q:∀ l h' tk,s.heap.objs.size<=l->(∀ b o,s.heap.get? b=some o->h'.get? b=some o)->(∃ c,h'.get? l=some (aaD "list" (aah ((cG (cN kis) vs.length).toList.map λi=>vs.getD i Value.none)) c))->Q (.ref l) { s with heap:=h',toks:=tk }) :
 Yr (model prog w) A (call (.builtin "sorted") [.ref r]) Q E s:=by
 refine Calls.call_function_entry kind_sorted plain_sorted entry_sorted (args_sorted1 _) ?_;unfold aaJ.«sorted»;refine XX (m:=checkCount "sorted" 1 1 _) (X3 (XX (qI _ _ _ rfl λh1 tk keep hsz=>?_)));refine XX (wpAny_newList ?_ (by rw[abo];walk_at "o"));have oL:(h1.push (aaD "list" vs.toArray 0)).get? h1.objs.size=some (aaD "list" vs.toArray 0):=Ya _ rfl;have qJ:∀ b o,s.heap.get? b=some o->b≠h1.objs.size/\(h1.push (aaD "list" vs.toArray 0)).get? b=some o:=λb o e=>by have:=X4 e;exact⟨by walk_at "o",X2 _ (keep b o e)⟩
 show Yr _ A.in1 (holding [.ref h1.objs.size] (call (.builtin "list.sort") [.ref h1.objs.size]) >>= _) _ _ { s with heap:=h1.push (aaD "list" vs.toArray 0),toks:=tk };generalize h1.push (aaD "list" vs.toArray 0)=h2 at oL qJ ⊢;generalize h1.objs.size=l at oL qJ hsz ⊢;refine XX (Zz (Zj slot_list_sort ⟨_,oL,rfl⟩ entry_list_sort ?body (args_list_sort _)))
 case body =>
  refine Oh (s:={ s with heap:=h2,toks:=tk }) oL hl dw (λg z=>hk g λb o n e=>z b o n (qJ b o e).2) λh' k c=>⟨_,rfl,X3 ⟨_,rfl,q l h' tk hsz (λb o e=>k b o (qJ b o e).1 (qJ b o e).2) c⟩⟩
theorem Oi(hl:kis.length=vs.length)(hk:∀ i,i<vs.length->mM h vs kis i):uV prog w h vs kis:=λh2=>by
 obtain⟨fs,ht,lf,hi⟩:=Ew vs kis hl hk;refine⟨tuples' true,λA E s e=>?_⟩;subst e;refine⟨λQ q=>PySem.W.kat_kind (T:=.type "int") ht (by walk_at "o") (λv hv=>?_) (by decide) q,λi j hi hj C q=>?_⟩
 .obtain⟨i,t,rfl⟩:=hi v hv;exact PySem.W.Looks.now
 .obtain⟨p1,o1,i1,m1,a1,b1,_,c1,d1,_⟩:=hk i hi;obtain⟨p2,o2,i2,m2,a2,b2,_,c2,d2,_⟩:=hk j hj;rw[XZ,XZ,a1,a2];have z1:=d1.length;have z2:=d2.length;exact PySem.W.kat_lt b1 c1 b2 c2 (by simpa using NG (b:=true) (i:=0) d1 d2 (by simp[z1,z2]) q)
theorem Oj(hl:kis.length=vs.length)(dw:vs.length<64)(hk:∀ i,i<vs.length->mM s.heap vs kis i)(qI:∀ (A':ZP) (Q':List X7->Yd->Prop) (E':X7->Yd->Prop),A'.handled=A.handled->(∀ h' tk,(∀ b o,s.heap.get? b=some o->h'.get? b=some o)->s.heap.objs.size<=h'.objs.size->Q' vs { s with heap:=h',toks:=tk })->Yr (model prog w) A' (collect (.ref r)) Q' E' s)(q:∀ l h' tk,s.heap.objs.size<=l->(∀ b o,s.heap.get? b=some o->h'.get? b=some o)->(∃ c,h'.get? l=some (aaD "list" (aah ((cG (cN kis) vs.length).toList.map λi=>vs.getD i Value.none)) c))->Q (.ref l) { s with heap:=h',toks:=tk }) :
 Yr (model prog w) A (call (.builtin "sorted") [.ref r]) Q E s :=
 Ex hl dw (λg z=>Oi hl λi hi=>(hk i hi).keep λb o e n=>z b o n e) qI q
theorem Ey(K:adG prog w T r d n P OK)(hh:A.handled=none)(az:OK s.heap)(hn:n<=Yt)(q:∀ h' tk acc,(∀ b o,s.heap.get? b=some o->h'.get? b=some o)->s.heap.objs.size<=h'.objs.size->ItemsOf P acc n->Q acc.toList { s with heap:=h',toks:=tk }):Yr (model prog w) A (collect (.ref r)) Q E s:=by
 have lt:=K.there _ az;unfold collect;refine XX (wpAny_runValue (Zb entry_proto_collect' ?_));rw[YV PySem.F.plain_proto_collect _];show Yr _ A.in1 (afz [] >>= λl=>again (.builtin "list.__iadd__" ⟨[l,.ref r],[]⟩)) _ _ s;refine XX (Y5 (X3 ⟨Code.quiet_builtin _ (by decide +kernel),Zb entry_list_iadd' ?_⟩));rw[YV PySem.F.plain_list_iadd _];have oS:(s.heap.push { cls:=.type "list",data:=.seq ([]:List X7).toArray }).get? s.heap.objs.size=some { cls:=.type "list",data:=.seq #[] 0 }:=Ya _ rfl;show Yr _ A.in1 (Z8 (.ref s.heap.objs.size) (.ref r) (.ref s.heap.objs.size)) _ _ { s with heap:=s.heap.push { cls:=.type "list",data:=.seq ([]:List X7).toArray } };refine PySem.W.kdl_extend (R:=λr s'=>match r with
  | .ok (.ret v)=>Yr (model prog w) A (match v with|.ref a=>(do match (<- load a).data with|.seq xs _=>pure xs.toList|_=>unsupported "internal:collect")|_=>unsupported "internal:collect") Q E s'
  | .ok _=>False
  | .error e=>E e s') (s:={ s with heap:=s.heap.push { cls:=.type "list",data:=.seq ([]:List X7).toArray } }) K hh (K.keep _ _ az λb _ o e=>X2 _ e) s.heap.objs.size (Y7 lt.1) (Y7 lt.2) (.ref s.heap.objs.size) 0 oS (λh' tk acc c hk hS gO=>?_) hn
 show Yr _ A (load s.heap.objs.size >>= _) _ _ _;refine XX (wpAny_load hS (X3 ?_));exact q h' tk acc (λb o e=>hk b o (Yk (X4 e)) (X2 _ e)) (abx (X4 hS)) gO
end
def iA(H:Hp)(xs:List V)(kvs:List (List Key × V)):Prop:=aw (λx (kv:List Key × V)=>∃ a,x = .ref a/\H a=some (.tup (kv.1.map kV))) xs kvs
theorem KT.Ez(r:KT H kvs xs):iA H ((xs.map (·.2.1)).map V.ref) kvs:=by
 induction r with
 | nil=>exact trivial
 | cons h t ih=>exact⟨⟨_,rfl,h.2.1⟩,ih⟩
theorem iA.EA{K:XW}{H:Hp}:∀ {ys:List V} {kvs:List (List Key × V)} {kis:List (List Int)},iA H ys kvs->kvs.map (·.1)=kis.map (λk=>k.map acD)->(∀ k∈kis,k≠[])->gL K H ys kis
 | [],[],[],_,_,_=>trivial
 | [],[],_::_,_,e,_=>by simp at e
 | _::_,kv::kvs,[],_,e,_=>by simp at e
 | y::ys,kv::kvs,k::kis,h,e,hn=>by rw[Ys,Ys] at e;injection e with e1 e2;obtain⟨⟨a,rfl,ha⟩,t⟩:=h;refine⟨⟨a,rfl,?_,hn k (.head _)⟩,iA.EA t e2 λk hk=>hn k (.tail _ hk)⟩;rw[e1,Y8] at ha;exact .inl (.inl ha)
 | [],_::_,_,h,_,_=>h.elim
 | _::_,[],_,h,_,_=>h.elim
theorem EB:∀ (as:List Ye),Vals (as.map V.ref) (as.map YC)
 | []=>.nil
 | _::as=>.cons rfl (EB as)
section
theorem Ol(I:Inv X pins σ H s)(e:H p=some (.dT kvs)):∃ (as:List Ye) (es:Array abP) (ep:Nat),iA H (as.map V.ref) kvs/\(p == aab)=false/\fK s.heap p es ep/\es.size=as.length/\(∀ acc:Array X7,ItemsOf (λi v=>∃ e,es[i]?=some e/\v=e.key) acc es.size->acc.toList=as.map YC)/\as.length<=Yt:=by
 obtain⟨z,hd,xs,rel,o,es,ep,ho,hc,hdt,he,his,hn⟩:=Ej I.az e;have hl:xs.length=kvs.length:=(Paired.length rel).symm;have hs:es.size=xs.length:=aff he;refine⟨xs.map (·.2.1),es,ep,KT.Ez rel,hd,⟨o,ho,hc,hdt⟩,by rw[XY];exact hs,λacc ha=>?_,by rw[XY,hl];exact z⟩;refine aap λi=>?_;rw[Yf,Yf];have la:acc.toList.length=es.size:=by rw[aat];exact ha.1
 by_cases hi:i<es.size
 .obtain⟨v,hv⟩:∃ v,acc.toList[i]?=some v:=⟨_,X0 (by lia)⟩
  obtain⟨en,h1,h2⟩:=ha.2 i v (by rw[<- abC];exact hv);rw[entry_at he i] at h1;cases hx:xs[i]? with
  | none=>rw[hx] at h1;cases h1
  | some y=>rw[hx] at h1;cases h1;rw[hv,h2];rfl
 .rw[Y9 (by lia),Y9 (by lia)];rfl
theorem Oo(I:Inv X pins σ H s)(h:gL X.K H ks kis)(r:Vals ks us):∀ i,i<us.length->mM s.heap us kis i:=λi hi=>by
 have hk:i<ks.length:=by rw[r.length];exact hi
 have Oq:i<kis.length:=by rw[<- h.len];exact hk
 obtain⟨p,ep,hp⟩:=h.get (X0 hk);obtain⟨u,eu,ru⟩:=r.get (X0 hk);rw[ep] at ru;cases ru;obtain⟨aq,rv,⟨o,ho,hc,m,hd⟩,_⟩:=I.tuple hp;refine⟨p,o,aq,m,eu,ho,hc,hd,intsAre_of rv,λz=>?_⟩;have nn:kis.getD i []≠[]:=by
  have all:∀ {ks:List V} {ns:List (List Int)},gL X.K H ks ns->∀ n∈ns,n≠[]:=by
   intro ks
   induction ks with
   | nil=>intro ns h n hn;cases ns with
    | nil=>simp at hn
    | cons _ _=>exact h.elim
   | cons k ks ih=>intro ns h n hn;cases ns with
    | nil=>exact h.elim
    | cons m ns =>
     obtain⟨⟨_,_,_,a7⟩,t⟩:=h;rcases Yi.mp hn with z|z
     .rw[z];exact a7
     .exact ih t n z
  rw[XZ,X0 Oq];exact all h _ (acS _)
 have:=rv.length;rw[XY,z] at this;exact nn (ZY.mp this)
theorem EC(I:Inv X pins σ H s)(r:Vals ks us)(hz:ks.length<=Yt)(hl:s.heap.objs.size<=l)(keep:∀ b o,s.heap.get? b=some o->h'.get? b=some o)(hD:∃ c,h'.get? l=some (aaD "list" (aah ((cG (cN kis) us.length).toList.map λi=>us.getD i Value.none)) c))(q:∀ l,H l=none->Q (.ref l) (upd H l (.lst (dr kis .non ks)))):EP X pins σ Q (.ref l) { s with heap:=h',toks:=tk }:=by obtain⟨c,hD⟩:=hD;have sv:=NI (kis:=kis) r;rw[r.length] at sv;exact⟨.ref l,_,I.laid (t':=tk) keep hl (show bK X.prog X.w _ h' _ (.lst (dr kis .non ks)) from ⟨by rw[D6];exact hz,_,c,sv,hD⟩),rfl,q l (I.az.fresh hl)⟩
theorem Ot(hc:X.calm=true):fu X (.builtin "sorted") (λxs H Q=>∃ (p:Ye) (kvs:List (List Key × V)) (kis:List (List Int)),xs=[.ref p]/\H p=some (.dT kvs)/\kvs.map (·.1)=kis.map (λk=>k.map acD)/\(∀ k∈kis,k≠[])/\kvs.length<64 /\
 ∀ l ys,H l=none->iA H ys kvs->Q (.ref l) (upd H l (.lst (dr kis .non ys)))):=by
 intro pins s σ H xs us Q I r h;obtain⟨p,kvs,kis,rfl,e,ek,a7,dw,q⟩:=h;obtain⟨u,rfl,rx⟩:=vals1 r;cases rx;obtain⟨as,es,ep,hk,lo,ra,hs,gO,hz⟩:=Ol I e;have la:as.length=kvs.length:=by have:=hk.len;rwa [XY] at this
 have lk:kis.length=kvs.length:=by have:=congrArg List.length ek;simpa using this.symm
 have hK:gL X.K H (as.map V.ref) kis:=hk.EA ek a7;have rv:=EB as;refine Oj (kis:=kis) (vs:=as.map YC) (by rw[XY];lia) (by rw[XY];lia) (Oo I hK rv) (λA' Q' E' hA hq=>Ey (Of lo) (hA.trans (I.ok.hd hc)) ra (by rw[hs];exact hz) λh' tk acc k1 k2 ha=>?_) λl h' tk h1 h2 h3=>EC I rv (by rw[XY];exact hz) h1 h2 h3 λl hl=>q l _ hl hk;rw[gO acc ha];exact hq h' tk k1 k2
end
def Ou(td ty:TE):TE:=λσ H Q=>td σ H λx H1=>∃ a,x = .ref a/\Ob H1 a/\ty σ H1 λy H2=>∃ b kvs k v,y = .ref b/\H2 a=some (.dT kvs)/\H2 b=some (.tup (k.map kV))/\fw kvs k=some v/\Q v (upd H2 a (.dT (N1 kvs k)))
section
end
section
variable{prog:Y0}{w:Zw}{K:Type}[DecidableEq K]{knd:KeyKind prog w K}{A:ZP}{E:X7->Yd->Prop}{s:Yd}{o d:Ye}{es:Array abP}{ep:Nat}
end
section
end
theorem aQ{c:Prop}[Decidable c]{a b:Prop}(h:c->a)(h':¬ c->b):if c then a else b:=by
 by_cases z:c
 .rw[if_pos z];exact h z
 .rw[if_neg z];exact h' z
theorem El(h:aax)(hb:aab<h.objs.size):bK P w H (h.push { cls:=.type "dict",data:=.dict #[] }) h.objs.size (.dK []) :=
 ⟨YB _,beq_eq_false_iff_ne.mpr (Y1 (Yk hb)),[],.nil,Heap.DictOf.new h⟩
section
theorem Inv.Ov(I:Inv X pins σ H s):aab<s.heap.objs.size:=by have h:Yw<s.heap.objs.size:=(I.mod.glob.keeps I.bk).lt;exact afR (by decide) h
def ED:TE:=λ_ H Q=>∀ p,H p=none->Q (.ref p) (upd H p (.dT []))
theorem EE:PE X (.Dict [] [] pos) ED:=λpins s σ H Q I h=>wpAny_Dict_empty
 ⟨.ref s.heap.objs.size,_,I.laid (a:=s.heap.objs.size) (o:=.dT []) (t':=s.toks) (λ_ _ z=>X2 _ z) (X9 _)
  ⟨YB _,beq_eq_false_iff_ne.mpr (Y1 (Yk (Inv.Ov I))),[],.nil,_,#[],0,Ya _ rfl,⟨rfl,rfl,rfl⟩,rfl,rfl,acg⟩,rfl,h _ (I.az.fresh (X9 _))⟩
theorem x6(h:∃ t,X.mg x=some (.int n t))(hg:Gl X x)(hd:(x == ("__debug__" : Str))=false:=by decide):PE X (.Name x pos) (tC (.int n)):=by obtain⟨t,ht⟩:=h;exact BQ (v:=.int n) hg ht ⟨t,rfl⟩ hd
end
section
end
noncomputable def n4(ks:List P2)(r:Int)(i:Nat):Bool:=decide ((aC ks i).1<=r) && decide (r<=(aC ks (i+1)).1)
theorem EF(hu:A.units+1<adh)(ho:PE X o td)(hi:PE X i ty)(hs:x3 i)(eA:X.A=A:=by rfl):PE X (.Subscript o i pos) (x4 td ty):=by subst eA;exact uU hu ho hi hs
abbrev Tb:=List (P2 × S2)
noncomputable def dX(i j:Int):List Key:=[.inl i,.inl j]
theorem x8{a b:P2}(h:dX a.1 a.2=dX b.1 b.2):a=b:=by unfold dX at h;injection h with h1 h2;injection h2 with h2 _;exact Prod.ext (Sum.inl.inj h1) (Sum.inl.inj h2)
noncomputable def gP(tb:Tb)(s:P2):Option S2:=(tb.find? λr=>decide (r.1=s)).map (·.2)
noncomputable def gf(tb:Tb)(s:P2)(w:S2):Tb:=if (tb.any λr=>decide (r.1=s))=true then tb.map (λr=>if r.1=s then (r.1,w) else r) else tb++[(s,w)]
def bw(H:Hp):List (List Key × V)->Tb->Prop
 | [],[]=>True
 | kv::kvs,r::tb=>(kv.1=dX r.1.1 r.1.2/\aI H kv.2 r.2.1 r.2.2)/\bw H kvs tb
 | _,_=>False
section
theorem bw.len:∀ {kvs:List (List Key × V)} {tb:Tb},bw H kvs tb->kvs.length=tb.length
 | [],[],_=>rfl
 | _::kvs,_::tb,h=>congrArg (· + 1) (bw.len (kvs:=kvs) (tb:=tb) h.2)
 | [],_::_,h=>h.elim
 | _::_,[],h=>h.elim
theorem bw.imp(f:∀ v a b,aI H v a b->aI H' v a b):∀ {kvs:List (List Key × V)} {tb:Tb},bw H kvs tb->bw H' kvs tb
 | [],[],_=>trivial
 | _::kvs,_::tb,h=>⟨⟨h.1.1,f _ _ _ h.1.2⟩,bw.imp f (kvs:=kvs) (tb:=tb) h.2⟩
 | [],_::_,h=>h.elim
 | _::_,[],h=>h.elim
theorem bw.app:∀ {kvs x9:List (List Key × V)} {tb n5:Tb},bw H kvs tb->bw H x9 n5->bw H (kvs++x9) (tb++n5)
 | [],_,[],_,_,h=>h
 | _::kvs,x9,_::tb,n5,h,h'=>⟨h.1,bw.app (kvs:=kvs) (tb:=tb) h.2 h'⟩
 | [],_,_::_,_,h,_=>h.elim
 | _::_,_,[],_,h,_=>h.elim
theorem bw.keys:∀ {kvs:List (List Key × V)} {tb:Tb},bw H kvs tb->kvs.map (·.1)=tb.map λr=>dX r.1.1 r.1.2
 | [],[],_=>rfl
 | kv::kvs,r::tb,h=>by rw[Ys,Ys,h.1.1,bw.keys (kvs:=kvs) (tb:=tb) h.2]
 | [],_::_,h=>h.elim
 | _::_,[],h=>h.elim
theorem bw.any(s:P2):∀ {kvs:List (List Key × V)} {tb:Tb},bw H kvs tb->(kvs.any λkv=>decide (kv.1=dX s.1 s.2))=tb.any λr=>decide (r.1=s)
 | [],[],_=>rfl
 | kv::kvs,r::tb,h=>by
  rw[Zn,Zn,bw.any s (kvs:=kvs) (tb:=tb) h.2,h.1.1]
  congr 1
  by_cases e:r.1=s
  .rw[e,decide_eq_true rfl,decide_eq_true rfl]
  .rw[decide_eq_false e,decide_eq_false λz=>e (x8 z)]
 | [],_::_,h=>h.elim
 | _::_,[],h=>h.elim
theorem bw.val(s:P2):∀ {kvs:List (List Key × V)} {tb:Tb},bw H kvs tb->(gP tb s=none->fw kvs (dX s.1 s.2)=none)/\∀ w,gP tb s=some w->∃ v,fw kvs (dX s.1 s.2)=some v/\aI H v w.1 w.2
 | [],[],_=>⟨λ_=>rfl,λw h=>by cases h⟩
 | kv::kvs,r::tb,h=>by
  have ih:=bw.val s (kvs:=kvs) (tb:=tb) h.2;by_cases e:r.1=s
  .have e1:gP (r::tb) s=some r.2:=by simp[gP,ZC,e]
   rw[e1,uN (h.1.1.trans (by rw[e]))];exact⟨λz=>(by cases z),λw z=>(by cases z;exact⟨_,rfl,h.1.2⟩)⟩
  .have e1:gP (r::tb) s=gP tb s:=by simp[gP,ZC,e]
   rw[e1,uO (λz=>e (x8 (h.1.1.symm.trans z)))];exact ih
 | [],_::_,h=>h.elim
 | _::_,[],h=>h.elim
theorem bw.oB(hv:aI H v w.1 w.2):∀ {kvs:List (List Key × V)} {tb:Tb},bw H kvs tb->bw H (kvs.map λkv=>if kv.1=dX s.1 s.2 then (kv.1,v) else kv) (tb.map λr=>if r.1=s then (r.1,w) else r)
 | [],[],_=>trivial
 | kv::kvs,r::tb,h=>by
  rw[Ys,Ys];refine⟨?_,bw.oB hv (kvs:=kvs) (tb:=tb) h.2⟩;by_cases e:r.1=s
  .rw[if_pos e,if_pos (h.1.1.trans (by rw[e]))];exact⟨h.1.1,hv⟩
  .rw[if_neg e,if_neg (λz=>e (x8 (h.1.1.symm.trans z)))];exact h.1
 | [],_::_,h=>h.elim
 | _::_,[],h=>h.elim
theorem bw.put(h:bw H kvs tb)(hv:aI H v w.1 w.2):bw H (putK kvs (dX s.1 s.2) v) (gf tb s w):=by
 unfold putK gf;rw[h.any s];split
 .exact h.oB hv
 .exact h.app ⟨⟨rfl,hv⟩,trivial⟩
theorem bw.uX:∀ {ys:List V} {kvs:List (List Key × V)} {tb:Tb},bw H kvs tb->iA H ys kvs->dU H ys (tb.map (·.1))
 | [],[],[],_,_=>trivial
 | y::ys,kv::kvs,r::tb,h,⟨⟨a,e,ha⟩,t⟩=>⟨⟨a,e,by rw[h.1.1] at ha;exact ha⟩,bw.uX (ys:=ys) (kvs:=kvs) (tb:=tb) h.2 t⟩
 | [],_::_,_,_,h=>h.elim
 | _::_,[],_,_,h=>h.elim
 | _,[],_::_,h,_=>h.elim
 | _,_::_,[],h,_=>h.elim
end
def TabAt(H:Hp)(p:Ye)(tb:Tb):Prop:=∃ kvs,H p=some (.dT kvs)/\bw H kvs tb
def Fr(H H':Hp):Prop:=∀ b o,(∀ kvs,o≠HO.dT kvs)->H b=some o->H' b=some o
def oH(ps:List Ye)(H H':Hp):Prop:=∀ b o,b∉ps->H b=some o->H' b=some o
def EG(H:Hp)(ps:List Ye):Prop:=∀ p∈ps,∃ kvs,H p=some (.dT kvs)
section
theorem _root_.L2.aj.fr(s:aj H H'):Fr H H':=λb o _ e=>s b o e
theorem SameBut.but(a:SameBut p H H')(h:p∈ps):oH ps H H':=λc o z e=>a c o (λy=>z (y ▸ h)) e
theorem oH.fr(a:oH ps H H')(d:EG H ps):Fr H H':=λb o ho e=>by
 by_cases hb:b∈ps
 .obtain⟨kvs,hk⟩:=d b hb;rw[hk] at e;exact absurd (Option.some.inj e).symm (ho kvs)
 .exact a b o hb e
theorem Ow(h:H p=some (.dT kvs)):Fr H (upd H p o):=λb u hu e=>by rw[aG (λz=>by rw[z,h] at e;exact hu _ (Option.some.inj e).symm)];exact e
theorem Ox(h:H p=some (.dT kvs)):EG H [p]:=λb hb=>⟨kvs,(YG.mp hb) ▸ h⟩
theorem SameBut.fr(a:SameBut p H H')(h:H p=some (.dT kvs)):Fr H H':=oH.fr (SameBut.but a (.head _)) (Ox h)
theorem aI.fr(h:aI H v a b)(f:Fr H H'):aI H' v a b:=let ⟨p,e,hp⟩:=h;⟨p,e,f _ _ (λ_ z=>nomatch z) hp⟩
theorem TabAt.fr(h:TabAt H p tb)(f:Fr H H')(e:∀ kvs,H p=some (.dT kvs)->H' p=some (.dT kvs)):TabAt H' p tb:=let ⟨kvs,a,b⟩:=h;⟨kvs,e _ a,b.imp λ_ _ _ z=>z.fr f⟩
theorem TabAt.same(h:TabAt H p tb)(s:aj H H'):TabAt H' p tb:=h.fr s.fr λ_ e=>s _ _ e
end
theorem uY(hn:(tb.map (·.1)).Nodup)(h:r∈tb):gP tb r.1=some r.2:=by
 induction tb with
 | nil=>cases h
 | cons x l ih =>
  rw[Ys,Zq] at hn;rcases Yi.mp h with z|z
  .rw[<- z];simp[gP,ZC]
  .have e:¬ x.1=r.1:=λy=>hn.1 (y ▸ Yc.mpr ⟨r,z,rfl⟩);have:gP (x::l) r.1=gP l r.1:=by simp[gP,ZC,e]
   rw[this,ih hn.2 z]
def lq(e t:Int)(s:P2):Prop:=(0<=s.1/\s.1<e)/\0<=s.2/\s.2<t
instance (e t:Int) (s:P2):Decidable (lq e t s):=by unfold lq;infer_instance
def bX(e t:Int)(tb:Tb):Prop:=(tb.map (·.1)).Nodup/\∀ r∈tb,lq e t r.1
theorem Oy(tb:Tb)(s:P2)(w:S2):(gf tb s w).length<=tb.length+1:=by unfold gf;split<;>simp
theorem bX.put(h:bX e t tb)(hs:lq e t s):bX e t (gf tb s w):=by
 unfold gf;split
 .refine⟨?_,λr hr=>?_⟩
  .have:(tb.map λr=>if r.1=s then (r.1,w) else r).map (·.1)=tb.map (·.1):=by rw[Y8];refine ZK λr _=>?_;show (if r.1=s then (r.1,w) else r).1=r.1;split<;>rfl
   rw[this];exact h.1
  .obtain⟨x,hx,rfl⟩:=Yc.mp hr;have:=h.2 x hx;split<;>exact this
 .rename_i z;refine⟨?_,λr hr=>?_⟩
  .rw[Zg];refine Er h.1 λy=>z ?_;obtain⟨x,hx,e⟩:=Yc.mp y;rw[YZ];exact⟨x,hx,by simpa using e⟩
  .rcases Yz.mp hr with y|y
   .exact h.2 r y
   .rw[YG.mp y];exact hs
theorem bX.nil:bX e t []:=⟨acg,λr h=>by cases h⟩
noncomputable def jq(tb:Tb):List (List Int):=tb.map λr=>[r.1.1,r.1.2]
noncomputable def lr(tb:Tb):Tb:=dr (jq tb) ((0,0),(none,none)) tb
theorem qK(h:r∈lr tb):r∈tb:=ou.mem_iff.mp h
theorem mO:(lr tb).length=tb.length:=D6
theorem aw.sort(h:aw R xs as):aw R (dr kis .non xs) (dr kis d as):=by
 have hl:=h.len;have hp:=(oq (n:=xs.length) (mK kis)).1;unfold dr;rw[<- hl];have gen:∀ l:List Nat,(∀ i∈l,i<xs.length)->aw R (l.map λi=>xs.getD i .non) (l.map λi=>as.getD i d):=by
  intro l
  induction l with
  | nil=>intro _;exact trivial
  | cons i l ih =>
   intro q;have hi:=q i (.head _);obtain⟨s,es,hs⟩:=h.get (X0 hi);refine⟨?_,ih λj hj=>q j (.tail _ hj)⟩;show R (xs.getD i .non) (as.getD i d);rw[XZ,XZ,es,X0 hi];exact hs
 exact gen _ λi hi=>by simpa using hp.mem_iff.mp hi
theorem aw.bind:∀ {xs:List V} {bs:List β},aw R xs (bs.map f)->aw (λx b=>R x (f b)) xs bs
 | [],[],_=>trivial
 | _::_,_::_,h=>⟨h.1,aw.bind h.2⟩
 | [],_::_,h=>h.elim
 | _::_,[],h=>h.elim
theorem aw.ya:∀ {xs:List V} {bs:List β},aw (λx b=>R x (f b)) xs bs->aw R xs (bs.map f)
 | [],[],_=>trivial
 | _::_,_::_,h=>⟨h.1,aw.ya h.2⟩
 | [],_::_,h=>h.elim
 | _::_,[],h=>h.elim
theorem Oz(h:bw H kvs tb):kvs.map (·.1)=(jq tb).map λk=>k.map acD:=by rw[h.keys];unfold jq;rw[Y8];rfl
theorem OA:∀ k∈jq tb,k≠[]:=λk hk=>by
 obtain⟨r,_,rfl⟩:=Yc.mp hk;exact λz=>nomatch z
theorem OB(h:bw H kvs tb)(hk:iA H ys kvs):aw (λx (r:P2 × S2)=>bD H x r.1) (dr (jq tb) .non ys) (lr tb):=aw.sort (aw.bind (h.uX hk))
def jr(H:Hp)(v:V)(r:P2 × S2):Prop:=∃ a w,v = .ref a/\H a=some (.tup [.int r.1.1,.int r.1.2,w])/\aI H w r.2.1 r.2.2
theorem jr.same(h:jr H v r)(s:aj H H'):jr H' v r:=let ⟨a,w,e,ha,hw⟩:=h;⟨a,w,e,s _ _ ha,hw.same s⟩
theorem OC(h:aW a b=true):aW (dt a c) (dv b d)=true:=by rcases a with _|x<;>rcases b with _|y<;>rcases c with _|z<;>rcases d with _|w<;>simp[aW,dt,dv] at h ⊢<;>lia
noncomputable def aZ(e:S2)(ss:List S2):S2:=ss.foldl (λe s=>(dt e.1 s.1,dv e.2 s.2)) e
theorem uZ(e s:S2)(ss:List S2):aZ e (s::ss)=aZ (dt e.1 s.1,dv e.2 s.2) ss:=rfl
theorem EH:∀ (ss:List S2) {e:S2},aW e.1 e.2=true->aW (aZ e ss).1 (aZ e ss).2=true
 | [],_,h=>h
 | s::ss,e,h=>by rw[uZ];exact EH ss (OC h)
theorem OD(h:aW (aZ e (ss.take i)).1 (aZ e (ss.take i)).2=true):aW (aZ e ss).1 (aZ e ss).2=true:=by
 have:aZ e ss=aZ (aZ e (ss.take i)) (ss.drop i):=by unfold aZ;rw[<- acz,aai]
 rw[this];exact EH _ h
theorem OE{ss:List S2}{e s:S2}{i:Nat}(h:ss[i]?=some s):aZ e (ss.take (i+1))=(dt (aZ e (ss.take i)).1 s.1,dv (aZ e (ss.take i)).2 s.2):=by unfold aZ;rw[Zi,h,acz];rfl
noncomputable def eE(e:S2)(ss:List S2):W2:=if aW (aZ e ss).1 (aZ e ss).2=true then none else some (aZ e ss)
theorem j7:∀ {xs:List V} {ss:List S2},cv H xs ss↔aw (λx s=>aI H x s.1 s.2) xs ss
 | [],[]=>Iff.rfl
 | _::_,_::_=>and_congr Iff.rfl j7
 | [],_::_=>Iff.rfl
 | _::_,[]=>Iff.rfl
abbrev Pa:=Str × Int × S2
def iB(H:Hp)(v:V)(p:Pa):Prop:=∃ (t q:Ye),v = .ref t/\H t=some (.tup [.str p.1,.int p.2.1,.ref q])/\H q=some (.tup [ev p.2.2.1,ev p.2.2.2])
theorem iB.same(h:iB H v p)(s:aj H H'):iB H' v p:=let ⟨t,q,e,a,b⟩:=h;⟨t,q,e,s _ _ a,s _ _ b⟩
abbrev de(H:Hp):List V->List Pa->Prop:=aw (iB H)
theorem de.same(h:de H xs ps)(s:aj H H'):de H' xs ps:=aw.imp (λ_ _ r=>r.same s) h
theorem iB.fr(h:iB H v p)(hr:H r=some (.lst ys)):iB (upd H r o) v p:=by
 obtain⟨t,q,e,a,b⟩:=h;have h1:t≠r:=λz=>by rw[z,hr] at a;cases a
 have h2:q≠r:=λz=>by rw[z,hr] at b;cases b
 exact⟨t,q,e,by rw[aG h1];exact a,by rw[aG h2];exact b⟩
theorem de.put(h:de H xs ps)(hr:H r=some (.lst ys)):de (upd H r o) xs ps:=aw.imp (λ_ _ x=>x.fr hr) h
noncomputable def jt(k:Str)(t:Int)(p:Pa):Bool:=decide (p.1=k) && decide (p.2.1=t)
noncomputable def sel(ps:List Pa)(k:Str)(t:Int):List S2:=(ps.filter (jt k t)).map (·.2.2)
noncomputable def hasB(n:Int)(k:Str)(t:Int):Bool:=if k = "step" then decide (0<=t/\t<n) && decide (0<=t+1/\t+1<n) else decide (k = "at") && decide (0<=t/\t<n)
def eF(n:Int)(ps:List Pa):Prop:=∀ p∈ps,hasB n p.1 p.2.1=true
theorem OF{n t:Int}{k:Str}(h:k ≠ "step"):hasB n k t=true↔k = "at" /\ 0<=t/\t<n:=by unfold hasB;rw[if_neg h];simp only[ZF,decide_eq_true_eq]
theorem int_at{cs:List Int}{t:Int}(h0:0<=t)(h1:t<(cs.length:Int)):cQ (cs.map V.int) t=some (.int (cs.getD t.toNat 0)):=by
 have e:t=((t.toNat:Nat):Int):=by lia
 refine (congrArg (cQ _) e).trans (cY ?_);rw[Yf,XZ,X0 (by lia)];rfl
theorem oI(bJ:Ok H):∀ {xs:List V} {as:List α} {ys:List V},aw R xs as ->
 (∀ x a,R x a->∀ Q,Q (p a) H->tt (some x::ρ) H Q)->(∀ x a,p a=true->R x a->∀ Q:VK,(∀ y,R' y (f a)->Q y H)->te (some x::ρ) H Q)->(∀ zs,aw R' zs ((as.filter p).map f)->Q' (ys++zs) H)->el Ok ρ tt te xs ys H Q'
 | [],[],ys,_,_,_,q=>⟨bJ,by simpa using q [] trivial⟩
 | x::xs,a::as,ys,h,ht,he,q=>by
  refine⟨bJ,ht x a h.1 _ ?_⟩;by_cases hb:p a=true
  .rw[if_pos hb];refine he x a hb h.1 _ λy ry=>oI bJ h.2 ht he λzs hz=>?_;have:=q (y::zs) (by rw[Y4,if_pos hb];exact⟨ry,hz⟩);simpa using this
  .rw[if_neg hb];refine oI bJ h.2 ht he λzs hz=>q zs ?_;rw[Y4,if_neg hb];exact hz
 | [],_::_,_,h,_,_,_=>h.elim
 | _::_,[],_,h,_,_,_=>h.elim
theorem OG{K:XW}{i j k:Nat}{p:Ye}{x y z:V}{σ:L2.St}{H:Hp}{Q:L2.St->Hp->Prop}(h:ah K H p [x,y,z])(q:Q (((σ.set i (some x)).set j (some y)).set k (some z)) H):jO K 3 (cU (cg i) (cU (cg j) (cU (cg k) iZ))) (.ref p) σ H Q :=
 ⟨p,_,rfl,h,rfl,_,_,rfl,_,_,rfl,_,_,rfl,rfl,q⟩
end Gz
namespace Gz
open PySem L2
def bp(s:S2)(x:Int):Prop:=(∀ a,s.1=some a->a<=x)/\∀ b,s.2=some b->x<=b
def bL(w:W2)(x:Int):Prop:=∃ s,w=some s/\bp s x
theorem EI:bp s x↔hold s.1 s.2 x=true:=xV.symm
theorem yb:bp (dt a.1 b.1,dv a.2 b.2) x↔bp a x/\bp b x:=by obtain⟨a1,a2⟩:=a;obtain⟨b1,b2⟩:=b;unfold bp;rcases a1 with _|p<;>rcases a2 with _|q<;>rcases b1 with _|r<;>rcases b2 with _|s<;>simp[dt,dv]<;>(try split)<;>(try split)<;>lia
theorem EJ:∀ {e:S2},bp (aZ e ss) x↔bp e x/\∀ s∈ss,bp s x:=by
 induction ss with
 | nil=>intro e;exact⟨λh=>⟨h,λ_ z=>nomatch z⟩,λh=>h.1⟩
 | cons s ss ih =>
  intro e;rw[uZ,ih,yb];simp only[Yi,forall_eq_or_imp,and_assoc]
theorem OH(h:aW s.1 s.2=false):∃ x,bp s x:=by
 obtain⟨a,b⟩:=s;rcases a with _|a<;>rcases b with _|b
 .exact⟨0,λ_ z=>(nomatch z),λ_ z=>(nomatch z)⟩
 .exact⟨b,λ_ z=>(nomatch z),λ_ z=>by cases z;exact Y6 _⟩
 .exact⟨a,λ_ z=>by cases z;exact Y6 _,λ_ z=>(nomatch z)⟩
 .refine⟨a,λ_ z=>by cases z;exact Y6 _,λ_ z=>?_⟩;cases z;simp[aW] at h;exact h
theorem EK(h:bp s x):aW s.1 s.2=false:=by
 obtain⟨a,b⟩:=s;rcases a with _|a<;>rcases b with _|b
 .rfl
 .rfl
 .rfl
 .have h1:=h.1 a rfl;have h2:=h.2 b rfl;simp[aW];lia
noncomputable def gh(a b:S2):W2:=if aW (dt a.1 b.1) (dv a.2 b.2)=true then none else some (dt a.1 b.1,dv a.2 b.2)
theorem mP:bL (gh a b) x↔bp a x/\bp b x:=by
 unfold gh;constructor
 .rintro ⟨s,e,h⟩;split at e
  .cases e
  .cases e;exact yb.mp h
 .intro h;have h:=yb.mpr h;rw[if_neg (by rw[EK h];simp)];exact⟨_,rfl,h⟩
theorem EL(h:gh a b=some s):aW s.1 s.2=false:=by
 unfold gh at h;split at h
 .cases h
 .rename_i hc;cases h;simpa using hc
theorem qL:bL (eE (none,none) ss) x ↔ ∀ s∈ss,bp s x:=by
 have e0:bp (none,none) x:=⟨λ_ z=>(nomatch z),λ_ z=>(nomatch z)⟩
 unfold eE;constructor
 .rintro ⟨s,e,h⟩;split at e
  .cases e
  .cases e;exact (EJ.mp h).2
 .intro h;have h:=EJ.mpr ⟨e0,h⟩;rw[if_neg (by rw[EK h];simp)];exact⟨_,rfl,h⟩
noncomputable def eG(s:S2)(p:P2):S2:=(s.1.map (· + p.1),s.2.map (· + p.2))
theorem u5(h:bp s x)(h1:p.1<=y-x)(h2:y-x<=p.2):bp (eG s p) y:=by
 obtain⟨a,b⟩:=s;refine⟨λz e=>?_,λz e=>?_⟩
 .obtain⟨a,ea,rfl⟩:=YJ.mp (show a.map (· + p.1)=some z from e);have:=h.1 a ea;lia
 .obtain⟨b,eb,rfl⟩:=YJ.mp (show b.map (· + p.2)=some z from e);have:=h.2 b eb;lia
theorem OI(hs:aW s.1 s.2=false)(hp:p.1<=p.2)(h:bp (eG s p) y):∃ x,bp s x/\p.1<=y-x/\y-x<=p.2:=by
 obtain⟨a,b⟩:=s;rcases a with _|a<;>rcases b with _|b
 .exact⟨y-p.1,⟨λ_ z=>(nomatch z),λ_ z=>(nomatch z)⟩,by lia,by lia⟩
 .have h2:=h.2 (b+p.2) rfl;exact⟨y-p.2,⟨λ_ z=>(nomatch z),λ_ z=>by cases z;lia⟩,by lia,by lia⟩
 .have h1:=h.1 (a+p.1) rfl;exact⟨y-p.1,⟨λ_ z=>by cases z;lia,λ_ z=>(nomatch z)⟩,by lia,by lia⟩
 .have h1:=h.1 (a+p.1) rfl;have h2:=h.2 (b+p.2) rfl;simp[aW] at hs;by_cases hc:a<=y-p.2
  .exact⟨y-p.2,⟨λ_ z=>by cases z;lia,λ_ z=>by cases z;lia⟩,by lia,by lia⟩
  .exact⟨a,⟨λ_ z=>by cases z;lia,λ_ z=>by cases z;lia⟩,by lia,by lia⟩
noncomputable def aR(bx:Nat->W2)(st:Nat->P2):Nat->W2
 | 0=>bx 0
 | t+1=>match bx (t+1),aR bx st t with
  | some b,some k=>gh b (eG k (st t))
  | _,_=>none
def mQ(w:W2):Prop:=∀ s,w=some s->aW s.1 s.2=false
theorem u6(h0:mQ (bx 0)):∀ t,mQ (aR bx st t)
 | 0=>h0
 | t+1=>λs e=>by
  unfold aR at e;split at e
  .exact EL e
  .cases e
theorem EM(h:aR bx st (t+1)=some s):∃ b k,bx (t+1)=some b/\aR bx st t=some k/\gh b (eG k (st t))=some s:=by
 unfold aR at h;split at h
 .rename_i b k e1 e2;exact⟨b,k,e1,e2,h⟩
 .cases h
theorem u7{bx:Nat->W2}{st:Nat->P2}{c:Nat->Int}{n:Nat}(hb:∀ t,t<=n->bL (bx t) (c t))(hs:∀ t,t<n->(st t).1<=c (t+1)-c t/\c (t+1)-c t<=(st t).2):∀ t,t<=n->bL (aR bx st t) (c t)
 | 0,h=>hb 0 h
 | t+1,h=>by obtain⟨k,ek,hk⟩:=u7 hb hs t (by lia);obtain⟨b,eb,yc⟩:=hb (t+1) h;obtain⟨h1,h2⟩:=hs t (by lia);unfold aR;rw[eb,ek];exact mP.mpr ⟨yc,u5 hk h1 h2⟩
theorem vc:∀ {t:Nat},bL (aR bx st t) x->bL (bx t) x
 | 0,h=>h
 | t+1,⟨s,e,h⟩=>by obtain⟨b,k,e1,_,e3⟩:=EM e;exact⟨b,e1,(mP.mp ⟨s,e3,h⟩).1⟩
theorem yd(h0:mQ (bx 0))(hp:(st t).1<=(st t).2)(h:bL (aR bx st (t+1)) y):∃ x,bL (aR bx st t) x/\(st t).1<=y-x/\y-x<=(st t).2:=by obtain⟨s,e,h⟩:=h;obtain⟨b,k,_,e2,e3⟩:=EM e;obtain⟨x,hx,h1,h2⟩:=OI (u6 h0 t k e2) hp (mP.mp ⟨s,e3,h⟩).2;exact⟨x,⟨k,e2,hx⟩,h1,h2⟩
noncomputable def eI(n:Nat)(st:Nat->P2)(t:Nat):P2:=(-(st (n-1-t)).2,-(st (n-1-t)).1)
noncomputable def cy(n:Nat)(bx:Nat->W2)(st:Nat->P2)(t:Nat):W2:=aR (λk=>aR bx st (n-k)) (eI n st) (n-t)
structure mR(n:Nat)(bx:Nat->W2)(st:Nat->P2):Prop where
 ok:∀ t,t<=n->∃ s,cy n bx st t=some s/\aW s.1 s.2=false
 sub:∀ t x,t<=n->bL (cy n bx st t) x->bL (bx t) x
 next:∀ t x,t<n->bL (cy n bx st t) x->∃ y,bL (cy n bx st (t+1)) y/\(st t).1<=y-x/\y-x<=(st t).2
theorem OJ(h0:mQ (bx 0))(hp:∀ t,t<n->(st t).1<=(st t).2)(hf:∀ t,t<=n->aR bx st t≠none):mR n bx st:=by
 have ye:=u6 (st:=st) h0;have OL:∀ k,k<=n->∃ s,aR (λk=>aR bx st (n-k)) (eI n st) k=some s:=by
  intro k
  induction k with
  | zero =>
   intro _;obtain⟨s,e⟩:=ab6.mp (hf n (X9 _));exact⟨s,e⟩
  | succ k ih =>
   intro hk;obtain⟨s,e⟩:=ih (by lia);obtain⟨y,hy⟩:=OH (u6 (bx:=λk=>aR bx st (n-k)) (ye n) k s e);have vd:bL (aR bx st (n-k)) y:=vc (bx:=λk=>aR bx st (n-k)) ⟨s,e,hy⟩;rw[show n-k=n-(k+1)+1 by lia] at vd;obtain⟨x,⟨f,ef,hx⟩,h1,h2⟩:=yd h0 (hp _ (by lia)) vd;have em:n-1-k=n-(k+1):=by lia
   have hm:bp (eG s (eI n st k)) x:=u5 hy (by unfold eI;rw[em];dsimp only;lia) (by unfold eI;rw[em];dsimp only;lia);obtain⟨z,ez,_⟩:=mP.mpr ⟨hx,hm⟩;refine⟨z,?_⟩;unfold aR;rw[e];show (match aR bx st (n-(k+1)),some s with
    | some b,some OM=>gh b (eG OM (eI n st k))
    | _,_=>none)=some z
   rw[ef];exact ez
 refine⟨λt ht=>?_,λt x ht h=>?_,λt x ht h=>?_⟩
 .obtain⟨s,e⟩:=OL (n-t) (by lia);exact⟨s,e,u6 (bx:=λk=>aR bx st (n-k)) (ye n) _ s e⟩
 .have:=vc (bx:=λk=>aR bx st (n-k)) h;rw[show n-(n-t)=t by lia] at this;exact vc this
 .unfold cy at h;rw[show n-t=n-(t+1)+1 by lia] at h;have hb:(eI n st (n-(t+1))).1<=(eI n st (n-(t+1))).2:=by unfold eI;have:=hp (n-1-(n-(t+1))) (by lia);dsimp only;lia
  obtain⟨y,hy,h1,h2⟩:=yd (bx:=λk=>aR bx st (n-k)) (ye n) hb h;have em:n-1-(n-(t+1))=t:=by lia
  unfold eI at h1 h2;rw[em] at h1 h2;dsimp only at h1 h2;exact⟨y,hy,by lia,by lia⟩
def eJ(ps:List P2)(c:Nat->Int):Prop:=∀ k,k<ps.length->(aC ps k).1<=c (k+1)-c k/\c (k+1)-c k<=(aC ps k).2
theorem yf(h:eJ ps c):∀ n,i+n<=ps.length->pre (·.1) ps (i+n)-pre (·.1) ps i<=c (i+n)-c i/\c (i+n)-c i<=pre (·.2) ps (i+n)-pre (·.2) ps i
 | 0,_=>by simp
 | n+1,hn=>by have ih:=yf h (i:=i) n (by lia);have hk:=h (i+n) (by lia);rw[show i+(n+1)=(i+n)+1 by lia,fI _ ps (by lia),fI _ ps (by lia)];lia
theorem ON(h:eJ ps c)(hi:i<=ps.length)(hj:j<=ps.length):c j-c i<=bA ps i j:=by
 unfold bA;split
 .have:=(yf h (i:=i) (j-i) (by lia)).2
  rwa [show i+(j-i)=j by lia] at this
 .have:=(yf h (i:=j) (i-j) (by lia)).1;rw[show j+(i-j)=i by lia] at this;lia
abbrev Mk:=Nat × S2
def meets(ms:List Mk)(c:Nat->Int):Prop:=∀ m∈ms,bp m.2 (c m.1)
structure j8(ps:List P2)(ms:List Mk)(tp:Nat->Option P2):Prop where
 val:∀ t v k,t<=ps.length->tp t=some (v,k)->∃ (i:Nat) (m:Mk) (h:Int),k=(i:Int)/\ms[i]?=some m/\m.2.2=some h/\h+bA ps m.1 t<=v
 top:∀ m∈ms,∀ h,m.2.2=some h->∃ v k,tp m.1=some (v,k)/\v<=h
 fwd:∀ t v k,t<ps.length->tp t=some (v,k)->∃ v' k',tp (t+1)=some (v',k')/\v'<=v+(aC ps t).2
 bwd:∀ t v k,t<ps.length->tp (t+1)=some (v,k)->∃ v' k',tp t=some (v',k')/\v'<=v-(aC ps t).1
def qM(ms:List Mk)(tp:Nat->Option P2):Prop:=∀ m∈ms,∀ l v k,m.2.1=some l->tp m.1=some (v,k)->l<=v
theorem OO(hp:cZ ps)(hm:∀ m∈ms,m.1<=ps.length)(T:j8 ps ms tp)(hn:qM ms tp):∃ c,eJ ps c/\meets ms c:=by
 by_cases h0:tp 0=none
 .have OP:∀ t,t<=ps.length->tp t=none:=by
   intro t
   induction t with
   | zero=>intro _;exact h0
   | succ t ih =>
    intro ht;cases e:tp (t+1) with
    | none=>rfl
    | some q =>
     obtain⟨v,k⟩:=q;obtain⟨v',k',e',_⟩:=T.bwd t v k (by lia) e;rw[ih (by lia)] at e';cases e'
  have OQ:∀ m∈ms,m.2.2=none:=λm cH=>by
   cases e:m.2.2 with
   | none=>rfl
   | some h =>
    obtain⟨v,k,e',_⟩:=T.top m cH h e;rw[OP m.1 (hm m cH)] at e';cases e'
  have big:∀ (l:List Mk),∃ M:Int,∀ m∈l,∀ a,m.2.1=some a->a<=M+pre (·.1) ps m.1:=by
   intro l
   induction l with
   | nil=>exact⟨0,λ_ z=>nomatch z⟩
   | cons m l ih =>
    obtain⟨M,hM⟩:=ih;cases e:m.2.1 with
    | none =>
     refine⟨M,λq hq a ha=>?_⟩;rcases Yi.mp hq with rfl|hq
     .rw[e] at ha;cases ha
     .exact hM q hq a ha
    | some b =>
     refine⟨if M<=b-pre (·.1) ps m.1 then b-pre (·.1) ps m.1 else M,λq hq a ha=>?_⟩;rcases Yi.mp hq with rfl|hq
     .rw[e] at ha;cases ha;split<;>lia
     .have:=hM q hq a ha;split<;>lia
  obtain⟨M,hM⟩:=big ms;refine⟨λt=>M+pre (·.1) ps t,λk hk=>?_,λm cH=>⟨λa ha=>hM m cH a ha,λb hb=>?_⟩⟩
  .have:=hp _ (mJ hk);dsimp only;rw[fI _ ps hk];lia
  .rw[OQ m cH] at hb;cases hb
 .have EN:∀ t,t<=ps.length->∃ v k,tp t=some (v,k):=by
   intro t
   induction t with
   | zero =>
    intro _;obtain⟨⟨v,k⟩,e⟩:=ab6.mp h0;exact⟨v,k,e⟩
   | succ t ih =>
    intro ht;obtain⟨v,k,e⟩:=ih (by lia);obtain⟨v',k',e',_⟩:=T.fwd t v k (by lia) e;exact⟨v',k',e'⟩
  refine⟨λt=>((tp t).map (·.1)).getD 0,λk hk=>?_,λm cH=>⟨λa ha=>?_,λb hb=>?_⟩⟩
  .obtain⟨v,q,e⟩:=EN k (by lia);obtain⟨v',q',e',h1⟩:=T.fwd k v q hk e;obtain⟨v2,q2,e2,h2⟩:=T.bwd k v' q' hk e';rw[e] at e2;cases e2;dsimp only;rw[e,e'];simp only[Option.map_some,aa3];lia
  .obtain⟨v,q,e⟩:=EN m.1 (hm m cH);have:=hn m cH a v q ha e;dsimp only;rw[e];exact this
  .obtain⟨v,q,e,h1⟩:=T.top m cH b hb;dsimp only;rw[e];exact h1
def clash(ps:List P2)(a b:Mk):Prop:=∃ h l,a.2.2=some h/\b.2.1=some l/\h+bA ps a.1 b.1<l
theorem OR(hc:eJ ps c)(hm:meets ms c)(ht:∀ m∈ms,m.1<=ps.length)(ha:a∈ms)(hb:b∈ms):¬ clash ps a b:=by rintro ⟨h,l,e1,e2,aS⟩;have h1:=(hm a ha).2 h e1;have h2:=(hm b hb).1 l e2;have h3:=ON hc (ht a ha) (ht b hb);lia
noncomputable def fe(a b:P2):Bool:=decide (a.1<b.1) || (decide (a.1=b.1) && decide (a.2<b.2))
noncomputable def ff(a b:P2):P2:=if fe b a=true then b else a
noncomputable def ju:Option P2->Option P2->Option P2
 | none,b=>b
 | some a,none=>some a
 | some a,some b=>some (ff a b)
theorem yg(a b:P2):(ff a b=a∨ff a b=b)/\(ff a b).1<=a.1/\(ff a b).1<=b.1:=by
 unfold ff fe;split
 .rename_i h;simp only[abS,ZF,decide_eq_true_eq] at h;exact⟨.inr rfl,by lia,by lia⟩
 .rename_i h;simp only[abS,ZF,decide_eq_true_eq,not_or,not_and] at h;exact⟨.inl rfl,by lia,by lia⟩
theorem EO(a b:Option P2):ju a b=a∨ju a b=b:=by
 rcases a with _|a<;>rcases b with _|b
 .exact .inl rfl
 .exact .inr rfl
 .exact .inl rfl
 .show some (ff a b)=some a∨some (ff a b)=some b;rcases (yg a b).1 with h|h<;>rw[h]
  .exact .inl rfl
  .exact .inr rfl
def eR(a:Option P2)(v:Int):Prop:=∃ w k,a=some (w,k)/\w<=v
theorem OS(h:eR a v):eR (ju a b) v:=by
 obtain⟨w,k,rfl,hw⟩:=h;rcases b with _|b
 .exact⟨w,k,rfl,hw⟩
 .have:=(yg (w,k) b).2.1;exact⟨(ff (w,k) b).1,(ff (w,k) b).2,rfl,by dsimp only at this;lia⟩
theorem yh(h:eR b v):eR (ju a b) v:=by
 obtain⟨w,k,rfl,hw⟩:=h;rcases a with _|a
 .exact⟨w,k,rfl,hw⟩
 .have:=(yg a (w,k)).2.2;exact⟨(ff a (w,k)).1,(ff a (w,k)).2,rfl,by dsimp only at this;lia⟩
noncomputable def oJ(a:Option P2)(OT:Int):Option P2:=a.map λq=>(q.1+OT,q.2)
theorem ER(h:eR a v):eR (oJ a b) (v+b):=by obtain⟨w,k,rfl,hw⟩:=h;exact⟨w+b,k,rfl,by lia⟩
def fL(ps:List P2)(ms:List Mk)(t:Nat)(a:Option P2):Prop:=∀ v k,a=some (v,k)->∃ (i:Nat) (m:Mk) (h:Int),k=(i:Int)/\ms[i]?=some m/\m.2.2=some h/\h+bA ps m.1 t<=v
theorem fL.yi(ha:fL ps ms t a)(hb:fL ps ms t b):fL ps ms t (ju a b):=by
 rcases EO a b with h|h<;>rw[h]
 .exact ha
 .exact hb
theorem OU(ps:List P2)(t:Nat):bA ps t t=0:=by unfold bA;rw[if_pos (X9 _)];lia
theorem OV(h:t<ps.length):bA ps t (t+1)=(aC ps t).2:=by unfold bA;rw[if_pos (abO _),fI _ ps h];lia
theorem OW(h:t<ps.length):bA ps (t+1) t = -(aC ps t).1:=by unfold bA;rw[if_neg (by lia),fI _ ps h];lia
theorem fL.lift(hp:cZ ps)(hm:∀ m∈ms,m.1<=ps.length)(ht:t<=ps.length)(hu:u<=ps.length)(hb:bA ps t u=b)(h:fL ps ms t a):fL ps ms u (oJ a b):=by intro v k e;obtain⟨⟨w,q⟩,ea,e⟩:=YJ.mp e;cases e;obtain⟨i,m,x,e1,e2,e3,hx⟩:=h w q ea;refine⟨i,m,x,e1,e2,e3,?_⟩;have:=N0 hp (hm m (Yo e2)) hu ht;dsimp only;lia
noncomputable def jv(tp:Nat->Option P2)(i:Nat)(x:Option P2):Nat->Option P2:=λt=>if t=i then x else tp t
theorem mS:jv tp i x i=x:=if_pos rfl
theorem j9(h:t≠i):jv tp i x t=tp t:=if_neg h
theorem ES(h:∀ t,t<=ps.length->fL ps ms t (tp t))(hx:fL ps ms i x):∀ t,t<=ps.length->fL ps ms t (jv tp i x t):=λt ht=>by
 by_cases e:t=i
 .subst e;rw[mS];exact hx
 .rw[j9 e];exact h t ht
theorem ve(h:eR (tp t) v):eR (jv tp i (ju (tp i) b) t) v:=by
 by_cases e:t=i
 .subst e;rw[mS];exact OS h
 .rw[j9 e];exact h
structure T1(ps:List P2)(ms:List Mk)(j:Nat)(tp:Nat->Option P2):Prop where
 val:∀ t,t<=ps.length->fL ps ms t (tp t)
 top:∀ m∈ms.take j,∀ h,m.2.2=some h->eR (tp m.1) h
theorem T1.nil:T1 ps ms 0 λ_=>none:=⟨λ_ _ _ _ e=>(nomatch e),λ_ h=>by simp at h⟩
theorem T1.skip(T:T1 ps ms j tp)(hm:ms[j]?=some m)(hn:m.2.2=none):T1 ps ms (j+1) tp:=⟨T.val,λq hq h e=>by
 rw[Zi,hm] at hq;rcases Yz.mp hq with z|z
 .exact T.top q z h e
 .obtain rfl:q=m:=by simpa using z
  rw[hn] at e;cases e⟩
theorem T1.put(T:T1 ps ms j tp)(hm:ms[j]?=some m)(hh:m.2.2=some h):T1 ps ms (j+1) (jv tp m.1 (ju (tp m.1) (some (h,(j:Int))))):=by
 have hv:fL ps ms m.1 (some (h,(j:Int))):=λv k e=>by cases e;exact⟨j,m,h,rfl,hm,hh,by rw[OU];lia⟩
 refine⟨λt ht=>?_,λq hq x e=>?_⟩
 .by_cases e:t=m.1
  .subst e;rw[mS];exact (T.val _ ht).yi hv
  .rw[j9 e];exact T.val t ht
 .rw[Zi,hm] at hq;rcases Yz.mp hq with z|z
  .exact ve (T.top q z x e)
  .obtain rfl:q=m:=by simpa using z
   rw[hh] at e;cases e;rw[mS];exact yh ⟨h,j,rfl,Y6 _⟩
structure T2(ps:List P2)(ms:List Mk)(j:Nat)(tp:Nat->Option P2):Prop where
 val:∀ t,t<=ps.length->fL ps ms t (tp t)
 top:∀ m∈ms,∀ h,m.2.2=some h->eR (tp m.1) h
 fwd:∀ t,t<j->∀ v,eR (tp t) v->eR (tp (t+1)) (v+(aC ps t).2)
theorem T1.two(T:T1 ps ms ms.length tp):T2 ps ms 0 tp:=⟨T.val,λm h=>T.top m (by rw[Zr];exact h),λ_ h=>absurd h (ZN _)⟩
theorem T2.step(hp:cZ ps)(hm:∀ m∈ms,m.1<=ps.length)(hj:j<ps.length)(T:T2 ps ms j tp):T2 ps ms (j+1) (jv tp (j+1) (ju (tp (j+1)) (oJ (tp j) (aC ps j).2))):=by
 refine⟨ES T.val ((T.val _ (by lia)).yi ((T.val j (by lia)).lift hp hm (by lia) (by lia) (OV hj))),λm h x e=>ve (T.top m h x e),λt ht v hv=>?_⟩;rw[j9 (by lia)] at hv;by_cases e:t=j
 .subst e;rw[mS];exact yh (ER hv)
 .rw[j9 (by lia)];exact T.fwd t (by lia) v hv
structure T3(ps:List P2)(ms:List Mk)(j:Nat)(tp:Nat->Option P2):Prop where
 val:∀ t,t<=ps.length->fL ps ms t (tp t)
 top:∀ m∈ms,∀ h,m.2.2=some h->eR (tp m.1) h
 fwd:∀ t,t<ps.length->∀ v,eR (tp t) v->eR (tp (t+1)) (v+(aC ps t).2)
 bwd:∀ t,j<=t->t<ps.length->∀ v,eR (tp (t+1)) v->eR (tp t) (v-(aC ps t).1)
theorem T2.three(T:T2 ps ms ps.length tp):T3 ps ms ps.length tp:=⟨T.val,T.top,T.fwd,λt h1 h2=>absurd h2 (by lia)⟩
theorem T3.step(hp:cZ ps)(hm:∀ m∈ms,m.1<=ps.length)(hj:j<ps.length)(T:T3 ps ms (j+1) tp):T3 ps ms j (jv tp j (ju (tp j) (oJ (tp (j+1)) (-(aC ps j).1)))):=by
 have h1:=hp _ (mJ hj);refine⟨ES T.val ((T.val _ (by lia)).yi ((T.val (j+1) (by lia)).lift hp hm (by lia) (by lia) (OW hj))),λm h x e=>ve (T.top m h x e),λt ht v hv=>?_,λt h2 h3 v hv=>?_⟩
 .by_cases e:t=j
  .subst e;rw[mS] at hv;rw[j9 (by lia)];rcases EO (tp t) (oJ (tp (t+1)) (-(aC ps t).1)) with z|z
   .rw[z] at hv;exact T.fwd t ht v hv
   .rw[z] at hv;obtain⟨w,k,e,hw⟩:=hv;obtain⟨⟨w',k'⟩,e1,e2⟩:=YJ.mp e;cases e2;exact⟨w',k',e1,by dsimp only at hw;lia⟩
  .rw[j9 e] at hv;exact ve (T.fwd t ht v hv)
 .rw[j9 (by lia)] at hv;by_cases e:t=j
  .subst e;rw[mS];refine yh ?_;have:=ER (b:=-(aC ps t).1) hv
   rwa [show v + -(aC ps t).1=v-(aC ps t).1 by lia] at this
  .rw[j9 e];exact T.bwd t (by lia) h3 v hv
theorem T3.tops(T:T3 ps ms 0 tp):j8 ps ms tp :=
 ⟨λt v k ht e=>T.val t ht v k e,T.top,λt v k ht e=>T.fwd t ht v ⟨v,k,e,Y6 _⟩,λt v k ht e=>T.bwd t (YB _) ht v ⟨v,k,e,Y6 _⟩⟩
theorem j8.clash(T:j8 ps ms tp)(hb:b.1<=ps.length)(e:tp b.1=some (v,k))(hl:b.2.1=some l)(hv:v<l):∃ (i:Nat) (a:Mk),k=(i:Int)/\ms[i]?=some a/\clash ps a b:=by obtain⟨i,m,h,e1,e2,e3,h4⟩:=T.val _ v k hb e;exact⟨i,m,e1,e2,h,l,e3,hl,by lia⟩
theorem yj:∀ t,(∀ k,k<=t->bx k=OX k)->(∀ k,k<t->st k=cL k)->aR bx st t=aR OX cL t
 | 0,h,_=>h 0 (X9 _)
 | t+1,h,hs=>by unfold aR;rw[h (t+1) (X9 _),yj t (λk hk=>h k (by lia)) (λk hk=>hs k (by lia)),hs t (by lia)]
noncomputable def eS(ws:List W2)(t:Nat):W2:=ws.getD t none
noncomputable def ba(ss:List S2)(t:Nat):S2:=ss.getD t (none,none)
noncomputable def atT(ms:List Mk)(t:Nat):List S2:=(ms.filter λm=>decide (m.1=t)).map (·.2)
noncomputable def bB(ms:List Mk)(t:Nat):W2:=eE (none,none) (atT ms t)
theorem yk:bL (bB ms t) x ↔ ∀ m∈ms,m.1=t->bp m.2 x:=by
 unfold bB;rw[qL];unfold atT;constructor
 .intro h m hm e;exact h _ (Yc.mpr ⟨m,Yy.mpr ⟨hm,by simpa using e⟩,rfl⟩)
 .intro h s hs;obtain⟨m,hm,rfl⟩:=Yc.mp hs;obtain⟨h1,h2⟩:=Yy.mp hm;exact h m h1 (by simpa using h2)
theorem ET(ms:List Mk)(t:Nat):mQ (bB ms t):=λs e=>by
 unfold bB eE at e;split at e
 .cases e
 .rename_i h;cases e;simpa using h
theorem EU(hc:eJ ps c)(hm:meets ms c):∀ t,t<=ps.length->aR (bB ms) (aC ps) t≠none:=λt ht e=>by obtain⟨s,es,_⟩:=u7 (bx:=bB ms) (st:=aC ps) (c:=c) (n:=ps.length) (λt _=>yk.mpr λm cH e=>by rw[<- e];exact hm m cH) (λt ht=>hc t ht) t ht;rw[e] at es;cases es
theorem ym(hp:cZ ps)(hf:∀ t,t<=ps.length->aR (bB ms) (aC ps) t≠none):mR ps.length (bB ms) (aC ps):=OJ (ET ms 0) (λt ht=>hp _ (mJ ht)) hf
noncomputable def ke(ps:List P2):List P2:=ps.reverse.map λp=>(-p.2,-p.1)
theorem OY(h:t<ps.length):aC (ke ps) t=eI ps.length (aC ps) t:=by unfold ke eI aC;rw[XZ,Yf,aag h,XZ,X0 (by lia)];rfl
theorem back_eq(hl:ss.length=ps.length+1)(h:∀ t,t<ps.length+1->aR (bB ms) (aC ps) t=some (ba ss t))(ht:t<=ps.length):aR (eS (ss.reverse.map some)) (aC (ke ps)) t=cy ps.length (bB ms) (aC ps) (ps.length-t):=by unfold cy;rw[show ps.length-(ps.length-t)=t by lia];refine yj t (λk hk=>?_) λk hk=>OY (by lia);rw[h (ps.length-k) (by lia)];unfold eS ba;rw[XZ,Yf,aag (by lia),hl,show ps.length+1-1-k=ps.length-k by lia,XZ,X0 (by lia)];rfl
theorem OZ(hl:ss.length=n+1)(ht:t<=n):ba ss.reverse t=ba ss (n-t):=by unfold ba;rw[XZ,aag (by lia),XZ,hl,show n+1-1-t=n-t by lia]
theorem O0(T:mR ps.length (bB ms) (aC ps))(ht:t<ps.length)(hx:bL (cy ps.length (bB ms) (aC ps) t) x)(hs:cy ps.length (bB ms) (aC ps) (t+1)=some s):∃ r,gh s (eG (some x,some x) (aC ps t))=some r/\∀ y,bp r y->bL (cy ps.length (bB ms) (aC ps) (t+1)) y/\(aC ps t).1<=y-x/\y-x<=(aC ps t).2:=by
 obtain⟨y,⟨s',e',hy⟩,h1,h2⟩:=T.next t x ht hx
 rw[hs] at e';cases e';have xx:bp (some x,some x) x:=⟨λ_ z=>by cases z;exact Y6 _,λ_ z=>by cases z;exact Y6 _⟩
 obtain⟨r,er,_⟩:=mP.mpr ⟨hy,u5 xx h1 h2⟩;refine⟨r,er,λz hz=>?_⟩;obtain⟨z1,z2⟩:=mP.mp ⟨r,er,hz⟩;refine⟨⟨s,hs,z1⟩,?_⟩;have a:=z2.1 (x+(aC ps t).1) rfl;have b:=z2.2 (x+(aC ps t).2) rfl;lia
noncomputable def bM(cs:List Int)(t:Nat):Int:=cs.getD t 0
theorem meets_of(T:mR ps.length (bB ms) (aC ps))(hm:∀ m∈ms,m.1<=ps.length)(h:∀ t,t<=ps.length->bL (cy ps.length (bB ms) (aC ps) t) (c t)):meets ms c:=λm cH=>yk.mp (T.sub _ _ (hm m cH) (h _ (hm m cH))) m cH rfl
noncomputable def dz(ts:List (Option P2))(t:Nat):Option P2:=ts.getD t none
theorem O2(h:i<ts.length):dz (ts.set i x)=jv (dz ts) i x:=by
 funext t;unfold dz jv;rw[XZ,List.getElem?_set];by_cases e:t=i
 .subst e;rw[if_pos rfl,if_pos rfl,if_pos h];rfl
 .rw[if_neg (λz=>e z.symm),if_neg e];exact (XZ ..).symm
theorem O3(n:Nat):dz (YT n none)=λ_=>none:=by funext t;unfold dz;rw[XZ,ZW];split<;>rfl
theorem O4(h0:mQ (bx 0))(hp:∀ t,t<n->(st t).1<=(st t).2)(ht:t<n)(h:bL (cy n bx st (t+1)) y)(hs:∃ s,cy n bx st t=some s):∃ x,bL (cy n bx st t) x/\(st t).1<=y-x/\y-x<=(st t).2:=by
 have hf:bL (aR bx st (t+1)) y:=by
  have:=vc (bx:=λk=>aR bx st (n-k)) h
  rwa [show n-(n-(t+1))=t+1 by lia] at this
 obtain⟨x,hx,h1,h2⟩:=yd h0 (hp t ht) hf;refine⟨x,?_,h1,h2⟩;obtain⟨k,ek,hk⟩:=h;obtain⟨f,ef,hxf⟩:=hx;unfold cy at ek ⊢;rw[show n-t=n-(t+1)+1 by lia];show bL (match aR bx st (n-(n-(t+1)+1)),aR (λk=>aR bx st (n-k)) (eI n st) (n-(t+1)) with
  | some b,some k=>gh b (eG k (eI n st (n-(t+1))))
  | _,_=>none) x
 rw[ek,show n-(n-(t+1)+1)=t by lia,ef];refine mP.mpr ⟨hxf,u5 hk ?_ ?_⟩
 .unfold eI;rw[show n-1-(n-(t+1))=t by lia];dsimp only;lia
 .unfold eI;rw[show n-1-(n-(t+1))=t by lia];dsimp only;lia
theorem EV(T:mR n bx st):∀ (d t:Nat) (x:Int),t+d=n->bL (cy n bx st t) x->∃ c:Nat->Int,c t=x/\(∀ k,t<=k->k<=n->bL (cy n bx st k) (c k))/\∀ k,t<=k->k<n->(st k).1<=c (k+1)-c k/\c (k+1)-c k<=(st k).2
 | 0,t,x,e,h=>⟨λ_=>x,rfl,λk h1 h2=>by rw[show k=t by lia];exact h,λk h1 h2=>absurd h2 (by lia)⟩
 | d+1,t,x,e,h=>by
  obtain⟨y,hy,h1,h2⟩:=T.next t x (by lia) h
  obtain⟨c,c0,c1,c2⟩:=EV T d (t+1) y (by lia) hy;refine⟨λk=>if k=t then x else c k,if_pos rfl,λk k1 k2=>?_,λk k1 k2=>?_⟩
  .dsimp only;by_cases ek:k=t
   .rw[if_pos ek,ek];exact h
   .rw[if_neg ek];exact c1 k (by lia) k2
  .dsimp only;rw[if_neg (show ¬ k+1=t by lia)];by_cases ek:k=t
   .rw[if_pos ek,ek,c0];exact⟨h1,h2⟩
   .rw[if_neg ek];exact c2 k (by lia) k2
theorem EW(h0:mQ (bx 0))(hp:∀ t,t<n->(st t).1<=(st t).2)(T:mR n bx st):∀ (t:Nat) (x:Int),t<=n->bL (cy n bx st t) x->∃ c:Nat->Int,c t=x/\(∀ k,k<=t->bL (cy n bx st k) (c k))/\∀ k,k<t->(st k).1<=c (k+1)-c k/\c (k+1)-c k<=(st k).2
 | 0,x,_,h=>⟨λ_=>x,rfl,λk h1=>by rw[show k=0 by lia];exact h,λk h1=>absurd h1 (by lia)⟩
 | t+1,x,ht,h=>by
  obtain⟨s,es,_⟩:=T.ok t (by lia);obtain⟨y,hy,h1,h2⟩:=O4 h0 hp (by lia) h ⟨s,es⟩;obtain⟨c,c0,c1,c2⟩:=EW h0 hp T t y (by lia) hy;refine⟨λk=>if k=t+1 then x else c k,if_pos rfl,λk k1=>?_,λk k1=>?_⟩
  .dsimp only;by_cases ek:k=t+1
   .rw[if_pos ek,ek];exact h
   .rw[if_neg ek];exact c1 k (by lia)
  .dsimp only;rw[if_neg (show ¬ k=t+1 by lia)];by_cases ek:k=t
   .rw[ek,if_pos rfl,c0];exact⟨h1,h2⟩
   .rw[if_neg (by lia)];exact c2 k (by lia)
theorem O5(hp:cZ ps)(hm:∀ m∈ms,m.1<=ps.length)(T:mR ps.length (bB ms) (aC ps))(ht:t<=ps.length)(h:bL (cy ps.length (bB ms) (aC ps) t) x):∃ c,eJ ps c/\meets ms c/\c t=x:=by
 obtain⟨c,c0,c1,c2⟩:=EV T (ps.length-t) t x (by lia) h;obtain⟨d,d0,d1,d2⟩:=EW (ET ms 0) (λt ht=>hp _ (mJ ht)) T t x ht h;refine⟨λk=>if k<=t then d k else c k,λk hk=>?_,meets_of T hm λk hk=>?_,?_⟩
 .dsimp only;by_cases e1:k<t
  .rw[if_pos (by lia),if_pos (by lia)];exact d2 k e1
  .by_cases e2:k=t
   .subst e2;rw[if_neg (by lia),if_pos (by lia),d0,<- c0];exact c2 k (by lia) hk
   .rw[if_neg (by lia),if_neg (by lia)];exact c2 k (by lia) hk
 .by_cases e:k<=t
  .rw[if_pos e];exact d1 k e
  .rw[if_neg e];exact c1 k (by lia) hk
 .dsimp only;rw[if_pos (X9 _)];exact d0
theorem O6(hc:eJ ps c)(hm:meets ms c)(ht:t<=ps.length):bL (cy ps.length (bB ms) (aC ps) t) (c t):=by
 have f:=u7 (bx:=bB ms) (st:=aC ps) (c:=c) (n:=ps.length) (λt _=>yk.mpr λm cH e=>by rw[<- e];exact hm m cH) (λt ht=>hc t ht);have b:=u7 (bx:=λk=>aR (bB ms) (aC ps) (ps.length-k)) (st:=eI ps.length (aC ps)) (c:=λk=>c (ps.length-k)) (n:=ps.length) (λk hk=>f _ (by lia)) (λk hk=>by
  have:=hc (ps.length-1-k) (by lia);unfold eI;rw[show ps.length-1-k+1=ps.length-k by lia] at this;rw[show ps.length-(k+1)=ps.length-1-k by lia];lia) (ps.length-t) (by lia)
 have e:ps.length-(ps.length-t)=t:=by lia
 unfold cy;rw[e] at b;exact b
end Gz
namespace Gz
open PySem PySem.Spec PyProof.Rows L2
noncomputable def rowOf(H:Hp):V->List V
 | .ref p=>match H p with
  | some (.tup xs)=>xs
  | _=>[]
 | _=>[]
theorem qN(h:H p=some (.tup xs)):rowOf H (.ref p)=xs:=by
 show (match H p with
  | some (.tup xs)=>xs
  | _=>[])=xs
 rw[h]
def mT(row:V->List V)(tt:TT):TT:=λσ H Q=>match σ with
 | some v::ρ=>tt ((row v).map some++ρ) H Q
 | _=>False
def mU(row:V->List V)(te:TE):TE:=λσ H Q=>match σ with
 | some v::ρ=>te ((row v).map some++ρ) H Q
 | _=>False
section
variable{K:XW}{ρ:L2.St}{tt:TT}{te:TE}{H:Hp}{Q:VK}{a:Ye}{xs:List V}{row:V->List V}
def qO(K:XW)(a:Ye)(xs:List V)(row:V->List V)(k:Nat)(H:Hp):Prop:=ai K H a xs/\∀ x∈xs,∃ p,x = .ref p/\ah K H p (row x)/\(row x).length=k
theorem O7{k:Nat}{g:TG}(hg:∀ (p:Ye) (ys:List V) (os:List (Option V)) (H:Hp) (Q:L2.St->Hp->Prop),os.length=k->ys.length=k->ah K H p ys->Q (ys.map some++ρ) H->g (.ref p) (os++ρ) H Q)
 (hn:xs.length<=Yt) (h:el (qO K a xs row k) ρ (mT row tt) (mU row te) xs [] H λzs H'=>∀ l,H' l=none->Q (.ref l) (upd H' l (.lst zs))) :
 jg k (i0 K a) g ρ tt te H Q:=by
 refine⟨λi m ys H=>m=xs.length-i/\i<=xs.length/\ys.length<=i/\el (qO K a xs row k) ρ (mT row tt) (mU row te) (xs.drop i) ys H λys H'=>∀ l,H' l=none->Q (.ref l) (upd H' l (.lst ys)),⟨_,rfl,YB _,X9 _,h⟩,?_⟩;rintro i m ys H ⟨rfl,hi,hy,c⟩;by_cases aS:i<xs.length
 .have e:=Y3 aS;rw[e] at c;obtain⟨⟨c0,c1⟩,c2⟩:=c;have l1:∀ y:V,(ys++[y]).length<=i+1:=λy=>by rw[Yh,Yx];lia
  have l2:ys.length<=i+1:=by lia
  refine .inr ⟨⟨xs,_,c0,X0 aS⟩,by lia,λzs H'=>zs.length<=i+1/\el (qO K a xs row k) ρ (mT row tt) (mU row te) (xs.drop (i+1)) zs H' λys H'=>∀ l,H' l=none->Q (.ref l) (upd H' l (.lst ys)),λzs H' q=>⟨_,by lia,rfl,aS,q.1,q.2⟩,λos mD v H' y=>?_⟩;obtain⟨rfl,ex⟩:=y;have ex:=ex xs c0;rw[X0 aS] at ex;obtain⟨p,ep,hp,hl⟩:=c1 xs[i] (acS _);cases ex;rw[ep] at hp hl c2 ⊢;refine hg p _ os _ _ mD hl hp ⟨(row (.ref p)).map some,by rw[XY];exact hl,rfl,?_⟩;simp only[l1,l2,true_and];exact c2
 .have e:i=xs.length:=by lia
  subst e;rw[acR] at c;exact .inl ⟨⟨xs,c.1.1,X9 _⟩,by lia,c.2⟩
theorem O8{p:Ye}{ys:List V}{os:List (Option V)}{H:Hp}{Q:L2.St->Hp->Prop}(ho:os.length=3)(hy:ys.length=3)(h:ah K H p ys)(q:Q (ys.map some++ρ) H):jO K 3 (cU (cg 0) (cU (cg 1) (cU (cg 2) iZ))) (.ref p) (os++ρ) H Q:=by
 match os,ho,ys,hy with
 | [o1,o2,o3],_,[x,y,z],_=>exact OG h q
theorem EX(hn:xs.length<=Yt)(h:el (qO K a xs row 3) ρ (mT row tt) (mU row te) xs [] H λzs H'=>∀ l,H' l=none->Q (.ref l) (upd H' l (.lst zs))) :
 jg 3 (i0 K a) (jO K 3 (cU (cg 0) (cU (cg 1) (cU (cg 2) iZ)))) ρ tt te H Q:=O7 (λ_ _ _ _ _ ho hy h q=>O8 ho hy h q) hn h
end
theorem vf{α β:Type}{R:Hp->V->α->Prop}{R':Hp->V->β->Prop}{Ok:Hp->Prop}{ρ:L2.St}{tt:TT}{te:TE}{p:α->Bool}{f:α->β}{Q':List V->Hp->Prop}(mono:∀ H H' x a,aj H H'->R H x a->R H' x a)(iz:∀ H H' x a,aj H H'->R' H x a->R' H' x a):∀ {xs:List V} {as:List α} {zs:List V} {bs:List β} {H:Hp},aw (R H) xs as->aw (R' H) zs bs->(∀ H',aj H H'->Ok H') ->
 (∀ x a,a∈as->∀ H',aj H H'->R H' x a->∀ Q:Bool->Hp->Prop,Q (p a) H'->tt (some x::ρ) H' Q)->(∀ x a,a∈as->p a=true->∀ H',aj H H'->R H' x a->∀ Q:VK,(∀ H2 y,aj H' H2->R' H2 y (f a)->Q y H2)->te (some x::ρ) H' Q)->(∀ H' ws,aj H H'->aw (R' H') ws (bs++(as.filter p).map f)->Q' ws H')->el Ok ρ tt te xs zs H Q'
 | [],[],zs,bs,H,_,hz,bJ,_,_,q=>⟨bJ H (aj.refl H),q H zs (aj.refl H) (by simpa using hz)⟩
 | x::xs,a::as,zs,bs,H,h,hz,bJ,ht,he,q=>by
  refine⟨bJ H (aj.refl H),ht x a (.head _) H (aj.refl H) h.1 _ ?_⟩;by_cases hp:p a=true
  .rw[if_pos hp];refine he x a (.head _) hp H (aj.refl H) h.1 _ λH2 y s2 ry=>?_;refine vf mono iz (bs:=bs++[f a]) (h.2.imp λ_ _ r=>mono _ _ _ _ s2 r) ((hz.imp λ_ _ r=>iz _ _ _ _ s2 r).snoc ry) (λH' s'=>bJ H' (s2.trans s')) (λx b hb H' s'=>ht x b (.tail _ hb) H' (s2.trans s')) (λx b hb hp H' s'=>he x b (.tail _ hb) hp H' (s2.trans s')) λH' ws s' hw=>q H' ws (s2.trans s') ?_;rw[Y4,if_pos hp];simpa using hw
  .rw[if_neg hp];refine vf mono iz h.2 hz bJ (λx b hb=>ht x b (.tail _ hb)) (λx b hb hp=>he x b (.tail _ hb) hp) λH' ws s' hw=>q H' ws s' ?_;rw[Y4,if_neg hp];exact hw
 | [],_::_,_,_,_,h,_,_,_,_,_=>h.elim
 | _::_,[],_,_,_,h,_,_,_,_,_=>h.elim
theorem O9(aq:List X7):aeW aq.toArray none none (some (-1))=aq.reverse.toArray:=by
 have e1:aa6 none none (some (-1)) aq.toArray.size=(((aq.length:Nat):Int)-1,-1,-1):=by rw[Yg];rfl
 unfold aeW;rw[e1];dsimp only;have e2:sliceRange (((aq.length:Nat):Int)-1) (-1) (-1)=(Yn aq.length).map λk=>aq.length-1-k:=by
  unfold sliceRange;have h1:¬ ((-1:Int) > 0):=by lia
  simp only[h1,if_false];by_cases h:aq.length=0
  .rw[h];rfl
  .rw[if_pos (by lia),show (((aq.length:Nat):Int)-1 - -1 - -1-1) / (- -1)=((aq.length:Nat):Int) by
    rw[show (- (-1:Int))=1 by lia,afS];lia,YS]
   refine ZK λk hk=>?_;have:=YF.mp hk;lia
 rw[e2]
 congr 1
 refine aap λk=>?_;have key:((Yn aq.length).map λk=>aq.length-1-k).filterMap (aq.toArray[·]?)=(Yn aq.length).map λk=>aq.getD (aq.length-1-k) .none:=by
  rw[List.filterMap_map];have:∀ (l:List Nat),(∀ k∈l,k<aq.length)->l.filterMap ((λx=>aq.toArray[x]?) ∘ λk=>aq.length-1-k)=l.map λk=>aq.getD (aq.length-1-k) .none:=by
   intro l
   induction l with
   | nil=>intro _;rfl
   | cons k l ih =>
    intro h;have hk:=h k (.head _);rw[Zf,Ys];have e:((λx=>aq.toArray[x]?) ∘ λk=>aq.length-1-k) k=some (aq.getD (aq.length-1-k) .none):=by show aq.toArray[aq.length-1-k]?=_;rw[List.getElem?_toArray,XZ,X0 (by lia)];rfl
    rw[e,ih λj hj=>h j (.tail _ hj)]
  exact this _ λk hk=>YF.mp hk
 rw[key];by_cases hk:k<aq.length
 .rw[Yf,YN hk,aag hk];simp only[Option.map_some];rw[XZ,X0 (by lia)];rfl
 .rw[Y9 (by rw[XY,Yb];lia),Y9 (by rw[ZJ];lia)]
section
variable{X:Cx}{e st:abD}{te ts:TE}{p2 pos:Pos}
def EY(K:XW)(te ts:TE):TE:=λσ H Q=>te σ H λx H1=>ts σ H1 λy H2=>y = .int (-1)/\∃ a xs,x = .ref a/\ai K H2 a xs/\∀ p,H2 p=none->Q (.ref p) (upd H2 p (.lst xs.reverse))
theorem EZ(he:PE X e te)(hs:PE X st ts):PE X (.Subscript e (.Slice none none (some st) p2) pos) (EY X.K te ts):=by intro pins s σ H Q I h;refine aeo (aB (he pins s σ H _ I h) λv s1 zq=>?_);obtain⟨x,H1,I1,r1,q1⟩:=zq;refine wpAny_Slice ?_;rw[adZ];refine X3 (X3 ?_);rw[evalPart_some];refine aB (hs pins s1 σ H1 _ I1 q1) λu s2 zq=>?_;obtain⟨y,H2,I2,r2,q2⟩:=zq;obtain⟨rfl,a,xs,rfl,hx,q⟩:=q2;obtain⟨t,rfl⟩:=r2;cases r1;have I4:Inv X pins σ H2 { s2 with heap:=s2.heap.push { cls:=.type "slice",data:=.fields #[.none,.none,.int (-1) t] } }:=I2.kept (t':=s2.toks) λb ob q=>X2 _ q;obtain⟨aq,r,ht,hz⟩:=I4.list hx;have hlen:=r.length;show Yr (model X.prog X.w) X.A (acG e (.Slice none none (some st) p2) (.ref a) (.ref s2.heap.objs.size)) (EP X pins σ Q) X.xe { s2 with heap:=s2.heap.push { cls:=.type "slice",data:=.fields #[.none,.none,.int (-1) t] } };refine tail_any (ops:=[.ref a,.ref s2.heap.objs.size]) ht.isList.typeIs slot_list_getitem.lookup ?_ (by with_unfolding_all rfl);refine acs ht.isList (Heap.IsSliceOf.new ..) .none .none (.int (-1) t) (by simp) ?_ (by rw[Yg];lia);rw[O9];refine⟨.ref _,_,I4.laid (t':=s2.toks) (o:=.lst xs.reverse) (λb ob q=>X2 _ q) (X9 _) ?_,rfl,q _ (I4.az.fresh (X9 _))⟩;exact⟨by rw[ZJ];exact hz,_,0,r.reverse,Ya _ rfl⟩
end
theorem Pb{K:XW}{a:Ye}{xs:List V}{ρ:L2.St}{tt:TT}{te:TE}{H:Hp}{Q:VK}(hn:xs.length<=Yt)(h:el (λH=>ai K H a xs) ρ tt te xs.reverse [] H λys H'=>∀ l,H' l=none->Q (.ref l) (upd H' l (.lst ys))):jW (uD K a xs.length) ρ tt te H Q:=by
 have hr:xs.reverse.length=xs.length:=ZJ;refine⟨λi m ys H=>m=xs.length-i/\i<=xs.length/\ys.length<=i/\el (λH=>ai K H a xs) ρ tt te (xs.reverse.drop i) ys H λys H'=>∀ l,H' l=none->Q (.ref l) (upd H' l (.lst ys)),⟨_,rfl,YB _,X9 _,h⟩,?_⟩;rintro i m ys H ⟨rfl,hi,hy,g⟩;by_cases aS:i<xs.length
 .have e:=Y3 (show i<xs.reverse.length by lia);rw[e] at g;obtain⟨g0,g1⟩:=g;refine .inr ⟨⟨xs,_,g0,rfl,X0 (by lia)⟩,by lia,λzs H'=>zs.length<=i+1/\el (λH=>ai K H a xs) ρ tt te (xs.reverse.drop (i+1)) zs H' λys H'=>∀ l,H' l=none->Q (.ref l) (upd H' l (.lst ys)),λzs H' q=>⟨_,by lia,rfl,aS,q.1,q.2⟩,λx H' y=>?_⟩;obtain⟨rfl,ex⟩:=y;have ex:=ex xs g0 rfl;rw[X0 (by lia)] at ex;cases ex;have l1:∀ y:V,(ys++[y]).length<=i+1:=λy=>by rw[Yh,Yx];lia
  have l2:ys.length<=i+1:=by lia
  simp only[l1,l2,true_and];exact g1
 .have e:i=xs.length:=by lia
  subst e;rw[abl (by lia)] at g;exact .inl ⟨rfl,by lia,g.2⟩
theorem xa(h:acF us ns):Vals (ns.map V.int) us:=by
 induction h with
 | nil=>exact .nil
 | cons n t r ih=>exact .cons ⟨t,rfl⟩ ih
theorem qP{α:Type}{R:Hp->V->α->Prop}{Ok:Hp->Prop}{ρ:L2.St}{tt:TT}{te:TE}{p:α->Bool}{Q':List V->Hp->Prop}(mono:∀ H H' x a,aj H H'->R H x a->R H' x a):∀ {xs:List V} {as:List α} {ys:List V} {H:Hp},aw (R H) xs as->(∀ H',aj H H'->Ok H') ->
 (∀ x a,a∈as->∀ H',aj H H'->R H' x a->∀ Q,(∀ gJ,aj H' gJ->Q (p a) gJ)->tt (some x::ρ) H' Q)->(∀ x H',aj H H'->∀ Q:VK,Q x H'->te (some x::ρ) H' Q) ->
 (∀ H' zs,aj H H'->aw (R H') zs (as.filter p)->Q' (ys++zs) H')->el Ok ρ tt te xs ys H Q'
 | [],[],ys,H,_,bJ,_,_,q=>⟨bJ H (aj.refl H),by simpa using q H [] (aj.refl H) trivial⟩
 | x::xs,a::as,ys,H,h,bJ,ht,he,q=>by
  refine⟨bJ H (aj.refl H),ht x a (.head _) H (aj.refl H) h.1 _ λH1 s1=>?_⟩;have go:=λ(ws:List V) (q2:∀ H' zs,aj H1 H'->aw (R H') zs (as.filter p)->Q' (ws++zs) H')=>qP (ys:=ws) mono (h.2.imp λx a r=>mono _ _ _ _ s1 r) (λH' s'=>bJ H' (s1.trans s')) (λx a ha H' s'=>ht x a (.tail _ ha) H' (s1.trans s')) (λx H' s'=>he x H' (s1.trans s')) q2;by_cases hb:p a=true
  .rw[if_pos hb];refine he x H1 s1 _ (go _ λH' zs s' hz=>?_);have:=q H' (x::zs) (s1.trans s') (by rw[Y4,if_pos hb];exact⟨mono _ _ _ _ (s1.trans s') h.1,hz⟩);simpa using this
  .rw[if_neg hb];refine go _ λH' zs s' hz=>q H' zs (s1.trans s') ?_;rw[Y4,if_neg hb];exact hz
 | [],_::_,_,_,h,_,_,_,_=>h.elim
 | _::_,[],_,_,h,_,_,_,_=>h.elim
theorem yn{β:Type}{R':Hp->V->β->Prop}{Ok:Hp->Prop}{ρ:L2.St}{tt:TT}{te:TE}{p:V × V->Bool}{f:V × V->β}{Q':List V->Hp->Prop}(iz:∀ H H' x a,aj H H'->R' H x a->R' H' x a):∀ {rows:List (V × V)} {H:Hp} {zs:List V} {bs:List β},aw (R' H) zs bs->(∀ H',aj H H'->Ok H') ->
 (∀ r∈rows,∀ H',aj H H'->∀ Q,Q (p r) H'->tt (some r.1::some r.2::ρ) H' Q)->(∀ r∈rows,p r=true->∀ H',aj H H'->∀ Q:VK,(∀ gJ y,aj H' gJ->R' gJ y (f r)->Q y gJ)->te (some r.1::some r.2::ρ) H' Q) ->
 (∀ H' ws,aj H H'->aw (R' H') ws (bs++(rows.filter p).map f)->Q' ws H')->oj Ok ρ tt te rows zs H Q'
 | [],H,zs,bs,hz,bJ,_,_,q=>⟨bJ H (aj.refl H),q H zs (aj.refl H) (by simpa using hz)⟩
 | (x,y)::r,H,zs,bs,hz,bJ,ht,he,q=>by
  refine⟨bJ H (aj.refl H),λw hw=>?_⟩;have s:=Gz.ao (o:=.tup [x,y]) hw;refine ht _ (.head _) _ s _ ?_;by_cases hb:p (x,y)=true
  .rw[if_pos hb];refine he _ (.head _) hb _ s _ λH2 v s2 r2=>?_;have S:=s.trans s2;refine yn iz (bs:=bs++[f (x,y)]) ((hz.imp λx a r=>iz _ _ _ _ S r).snoc r2) (λH' s'=>bJ H' (S.trans s')) (λz hz H' s'=>ht z (.tail _ hz) H' (S.trans s')) (λz hz hb H' s'=>he z (.tail _ hz) hb H' (S.trans s')) λH' ws s' hw=>q H' ws (S.trans s') ?_;rw[Y4,if_pos hb,Ys]
   rwa [acw] at hw
  .rw[if_neg hb];refine yn iz (hz.imp λx a r=>iz _ _ _ _ s r) (λH' s'=>bJ H' (s.trans s')) (λz hz H' s'=>ht z (.tail _ hz) H' (s.trans s')) (λz hz hb H' s'=>he z (.tail _ hz) hb H' (s.trans s')) λH' ws s' hw=>q H' ws (s.trans s') ?_;rw[Y4,if_neg hb];exact hw
abbrev lx(H:Hp)(v:V)(s:S2):Prop:=aI H v s.1 s.2
theorem aw.E1:∀ {H:Hp} {xs:List V} {ss:List S2},aw (lx H) xs ss->cv H xs ss
 | _,[],[],_=>trivial
 | _,_::_,_::_,h=>⟨h.1,aw.E1 h.2⟩
 | _,[],_::_,h=>h.elim
 | _,_::_,[],h=>h.elim
noncomputable def cellsFrom:En->List Int->List S2
 | lo,[]=>[(lo,none)]
 | lo,z::zs=>(lo,some (z-1))::cellsFrom (some z) zs
noncomputable def kf(c:S2):Int:=match c.1,c.2 with
 | some x,_=>x
 | none,some y=>y
 | none,none=>0
theorem Pc(h:uK c):hs c (kf c)=true:=by
 rw[ox];unfold uK at h;rcases c with ⟨_|x,_|y⟩
 .exact⟨λ_ e=>(nomatch e),λ_ e=>(nomatch e)⟩
 .exact⟨λ_ e=>(nomatch e),λ_ e=>by cases e;exact Y6 _⟩
 .exact⟨λ_ e=>by cases e;exact Y6 _,λ_ e=>(nomatch e)⟩
 .refine⟨λ_ e=>by cases e;exact Y6 _,λ_ e=>?_⟩;cases e;show x<=y;simp[aW] at h;lia
theorem E2(es:List Int):(es.map V.int).all i7=true:=by rw[afT];exact ZH.mpr λ_ _=>rfl
theorem yo(a:Int):∀ (es:List Int),nX (.int a) (es.map V.int)=es.contains a
 | []=>rfl
 | e::es=>by
  have ih:=yo a es;unfold nX at *;rw[Ys,Zn,ih,List.contains_cons]
  congr 1
  show (e == a)=(a == e);rw[aaF];simp only[beq_iff_eq];exact eq_comm
theorem E3{K:XW}{H1 H':Hp}{l:Ye}{ys:List V}{tb:Tb}(hl:H1 l=some (.lst ys))(hM:aw (jr H1) ys tb)(s:aj H1 H'):qO K l ys (rowOf H1) 3 H':=by refine⟨ai.of (s _ _ hl),λx hx=>?_⟩;obtain⟨i,hi⟩:=Zh.mp hx;obtain⟨m,_,t,p,rfl,h1,h2⟩:=hM.get hi;rw[qN h1];exact⟨t,rfl,ah.of (s _ _ h1),rfl⟩
noncomputable def cI:Nat->List (List Int)
 | 0=>[[]]
 | n+1=>cI n++(cI n).map λs=>s++[((n:Nat):Int)]
theorem qQ:∀ n,(cI n).length=2 ^ n
 | 0=>rfl
 | n+1=>by rw[cI,Yh,XY,qQ n,afU];lia
theorem qR:∀ (n:Nat) (s:List Int),s∈cI n->s.length<=n
 | 0,s,h=>by
  obtain rfl:s=[]:=by simpa [cI] using h
  exact X9 _
 | n+1,s,h=>by
  rw[cI] at h;rcases Yz.mp h with h|h
  .exact aex (qR n s h)
  .obtain⟨s',h',rfl⟩:=Yc.mp h;have:=qR n s' h';rw[Yh,Yx];lia
def kg(H:Hp)(v:V)(s:List Int):Prop:=∃ l,v = .ref l/\H l=some (.lst (s.map V.int))
theorem kg.same(h:kg H v s)(u:aj H H'):kg H' v s:=let ⟨l,e,a⟩:=h;⟨l,e,u _ _ a⟩
noncomputable def cn(tb:Tb)(es:List Int):List Mk:=((lr tb).filter λr=>!es.contains r.1.1).map λr=>(r.1.2.toNat,r.2)
noncomputable def fM(ps:List P2)(ms:List Mk):Option (List S2):=if ((Yn (ps.length+1)).any λt=>(aR (bB ms) (aC ps) t).isNone)=true then none else some ((Yn (ps.length+1)).map λt=>(cy ps.length (bB ms) (aC ps) t).getD (none,none))
def kh(H:Hp)(v:V)(o:Option (List S2)):Prop:=match o with
 | none=>v = .non
 | some ss=>∃ l zs,v = .ref l/\H l=some (.lst zs)/\aw (lx H) zs ss
theorem kh.same(h:kh H v o)(s:aj H H'):kh H' v o:=by
 cases o with
 | none=>exact h
 | some ss=>obtain⟨l,zs,e,a,b⟩:=h;exact⟨l,zs,e,s _ _ a,b.imp λ_ _ r=>aI.same r s⟩
theorem map_some:∀ (l:List α),(l.map f).filterMap id=l.filterMap f
 | []=>rfl
 | a::l=>by rw[Ys,Zf,Zf,map_some l];rfl
theorem yq:∀ {os:List (Option α)} {xs:List V},aw R xs (os.filter λo=>o.isSome)->aw (λv a=>R v (some a)) xs (os.filterMap id)
 | [],[],_=>trivial
 | [],_::_,h=>h.elim
 | none::os,xs,h=>yq (os:=os) h
 | some a::os,x::xs,h=>⟨h.1,yq (os:=os) h.2⟩
 | some a::os,[],h=>h.elim
theorem Pd:∀ n:Nat,n<8->∀ k:Nat,k<8->((cI n).filter λs=>decide (s.length=k)).length<=35:=by decide +kernel
theorem Pe{e m:Int}(h1:1<=e)(h7:e<=7):((cI e.toNat).filter λs=>decide ((s.length:Int)=m)).length<64:=by
 by_cases hm:0<=m/\m<8
 .have:=Pd e.toNat (by lia) m.toNat (by lia);have e2:(λs:List Int=>decide ((s.length:Int)=m))=λs=>decide (s.length=m.toNat):=by funext s;exact decide_eq_decide.mpr (by lia)
  rw[e2];lia
 .have:(cI e.toNat).filter (λs=>decide ((s.length:Int)=m))=[]:=List.filter_eq_nil_iff.mpr λs hs=>by have:=qR _ s hs;simp only[decide_eq_true_eq];lia
  rw[this];decide
noncomputable def ly(e t u d m:Int)(tb:Tb):List (List S2):=((cI e.toNat).filter λs=>decide ((s.length:Int)=m)).filterMap λs=>fM (YT (t-1).toNat (-d,u)) (cn tb s)
theorem Pf(h1:1<=e)(h7:e<=7):(ly e t u d m tb).length<64:=Ze (List.length_filterMap_le _ _) (Pe h1 h7)
theorem Pg(h:fM ps ms=some ss):ss.length=ps.length+1:=by
 unfold fM at h;split at h
 .cases h
 .cases h;rw[XY,Yb]
theorem Ph(ht:1<=t)(h:ss∈ly e t u d m tb):(ss.length:Int)=t:=by obtain⟨s,_,hs⟩:=ZQ.mp h;have:=Pg hs;rw[aaf] at this;lia
theorem cf:∀ {l:List α},l.Pairwise R->∀ {p q:α},p∈l->q∈l->p=q∨R p q∨R q p
 | [],_,_,_,h,_=>by cases h
 | x::l,h,p,q,hp,hq=>by
  have h1:=ad9.mp h;rcases Yi.mp hp with e1|i1<;>rcases Yi.mp hq with e2|i2
  .exact .inl (e1.trans e2.symm)
  .rw[e1];exact .inr (.inl (h1.1 q i2))
  .rw[e2];exact .inr (.inr (h1.1 p i1))
  .exact cf h1.2 i1 i2
theorem E4:∀ {n:Nat} {s:List Int},s∈cI n->s.length<n->∃ s'∈cI n,s'.length=s.length+1/\∀ x∈s,x∈s'
 | 0,s,_,h=>by lia
 | n+1,s,hs,hl=>by
  rw[cI] at hs;rcases Yz.mp hs with h|h
  .refine⟨s++[(n:Int)],?_,by simp,λx hx=>Zc _ hx⟩;rw[cI];exact Ym _ (Yc.mpr ⟨s,h,rfl⟩)
  .obtain⟨r,hr,rfl⟩:=Yc.mp h;rw[Yh,Yx] at hl;obtain⟨r',h1,h2,h3⟩:=E4 hr (by lia);refine⟨r' ++ [(n:Int)],?_,by simp[h2],λx hx=>?_⟩
   .rw[cI];exact Ym _ (Yc.mpr ⟨r',h1,rfl⟩)
   .rcases Yz.mp hx with z|z
    .exact Zc _ (h3 x z)
    .exact Ym _ z
theorem qS:(lr tb).Perm tb:=ou
theorem Pj:k∈cn tb es ↔ ∃ r∈tb,r.1.1∉es/\k=(r.1.2.toNat,r.2):=by
 unfold cn;rw[Yc];constructor
 .rintro ⟨r,hr,rfl⟩;obtain⟨h1,h2⟩:=Yy.mp hr;exact⟨r,qK h1,by simpa using h2,rfl⟩
 .rintro ⟨r,hr,hn,rfl⟩;exact⟨r,Yy.mpr ⟨qS.mem_iff.mpr hr,by simpa using hn⟩,rfl⟩
theorem Pk(h:fM ps ms=some ss):(∀ t,t<=ps.length->aR (bB ms) (aC ps) t≠none)/\∀ t,t<=ps.length->ba ss t=(cy ps.length (bB ms) (aC ps) t).getD (none,none):=by
 unfold fM at h;split at h
 .cases h
 .rename_i hn;cases h;refine⟨λt ht e=>hn (YZ.mpr ⟨t,YF.mpr (by lia),by rw[e];rfl⟩),λt ht=>?_⟩;unfold ba;rw[XZ,Yf,YN (by lia)];rfl
theorem Pl(h:∀ t,t<=ps.length->aR (bB ms) (aC ps) t≠none):∃ ss,fM ps ms=some ss:=by
 unfold fM;rw[if_neg]
 .exact⟨_,rfl⟩
 .intro z;obtain⟨t,ht,e⟩:=YZ.mp z;exact h t (by have:=YF.mp ht;lia) (ach.mp e)
theorem yr(hp:cZ ps)(hm:∀ m∈ms,m.1<=ps.length)(h:fM ps ms=some ss)(ht:t<=ps.length):uK (ba ss t)/\∀ x,bp (ba ss t) x ↔ ∃ c,eJ ps c/\meets ms c/\c t=x:=by obtain⟨h1,h2⟩:=Pk h;have T:=ym hp h1;obtain⟨s,es,hc⟩:=T.ok t ht;rw[h2 t ht,es];refine⟨hc,λx=>⟨λhx=>O5 hp hm T ht ⟨s,es,hx⟩,?_⟩⟩;rintro ⟨c,h3,h4,rfl⟩;obtain⟨s',es',hx⟩:=O6 h3 h4 ht;rw[es] at es';cases es';exact hx
def vg(e t u d m:Int)(tb:Tb)(k:Nat)(x:Int):Prop:=∃ s∈cI e.toNat,(s.length:Int)=m/\∃ c,eJ (YT (t-1).toNat (-d,u)) c/\meets (cn tb s) c/\c k=x
theorem yt(hu:0<=u)(hd:0<=d):cZ (YT n ((-d,u):P2)):=λq hq=>by rw[(aea.mp hq).2];show -d<=u;lia
theorem Pm(az:bX e t tb)(ht:1<=t)(s:List Int):∀ m∈cn tb s,m.1<=(t-1).toNat:=λm hm=>by obtain⟨r,hr,_,rfl⟩:=Pj.mp hm;have:=(az.2 r hr).2;show r.1.2.toNat<=_;lia
theorem Pn{e t u d m:Int}{tb:Tb}{k:Nat}(hu:0<=u)(hd:0<=d)(az:bX e t tb)(ht:1<=t)(hk:(k:Int)<t):(∀ s∈(ly e t u d m tb).map λss=>ba ss k,uK s)/\∀ x,(((ly e t u d m tb).map λss=>ba ss k).any λs=>hs s x)=true↔vg e t u d m tb k x:=by
 have rl:(YT (t-1).toNat ((-d,u):P2)).length=(t-1).toNat:=aaf;have mt:∀ s,∀ m∈cn tb s,m.1<=(YT (t-1).toNat ((-d,u):P2)).length:=λs m hm=>by rw[rl];exact Pm az ht s m hm
 constructor
 .intro s hs;obtain⟨ss,hss,rfl⟩:=Yc.mp hs;obtain⟨es,_,he⟩:=ZQ.mp hss;exact (yr (yt hu hd) (mt es) he (by lia)).1
 .intro x;rw[YZ];constructor
  .rintro ⟨s,hs,hx⟩;obtain⟨ss,hss,rfl⟩:=Yc.mp hs;obtain⟨es,h1,he⟩:=ZQ.mp hss;obtain⟨h2,h3⟩:=Yy.mp h1;exact⟨es,h2,by simpa using h3,((yr (yt hu hd) (mt es) he (by lia)).2 x).mp (ox.mp hx)⟩
  .rintro ⟨es,h1,h2,c,h3,h4,h5⟩;obtain⟨ss,hss⟩:=Pl (EU h3 h4);refine⟨ba ss k,Yc.mpr ⟨ss,ZQ.mpr ⟨es,Yy.mpr ⟨h1,by simpa using h2⟩,hss⟩,rfl⟩,ox.mpr (((yr (yt hu hd) (mt es) hss (by lia)).2 x).mpr ⟨c,h3,h4,h5⟩)⟩
local macro_rules | `(tactic| walk_at "o") => `(tactic| ((try simp only [PySem.Addr] at *); lia))
section
end
noncomputable def Po(K:XW)(a b c:Ye):It :=
 ⟨λi H=>∃ xs ys zs x y z,ai K H a xs/\ai K H b ys/\ai K H c zs/\xs[i]?=some x/\ys[i]?=some y/\zs[i]?=some z,λi H v H'=>∃ (p:Ye) (x y z:V),v = .ref p/\H p=none/\H'=upd H p (.tup [x,y,z])/\(∀ xs,ai K H a xs->xs[i]?=some x)/\(∀ ys,ai K H b ys->ys[i]?=some y)/\∀ zs,ai K H c zs->zs[i]?=some z,
  λi H=>∃ xs,ai K H a xs/\xs.length<=i⟩
def Pq(K:XW)(ta:TA):TI:=λσ H R=>ta σ H λvs H1=>∃ a b c,vs=[.ref a,.ref b,.ref c]/\(∃ xs,ai K H1 a xs)/\(∃ ys,ai K H1 b ys)/\(∃ zs,ai K H1 c zs)/\R (Po K a b c) H1
section
def Loose:HO->Prop
 | .dT _=>True
 | .aO _ (.dT _)=>True
 | _=>False
theorem E5(I:Inv X pins σ H s)(e:H a=some u)(lu:Loose u)(h0:∀ o v,X.H₀ a≠some (.aO o v))(new:bK X.prog X.w (upd H a u') s.heap a u'):Inv X pins σ (upd H a u') s:=by
 have nn:∀ b,H b=none->b≠a:=λb h z=>by rw[z,e] at h;cases h
 have nt:∀ b xs,H b=some (.tup xs)->b≠a:=λb xs h z=>by rw[z,e] at h;cases h;exact lu
 have no:∀ b x,H b=some (.own x)->b≠a:=λb x h z=>by rw[z,e] at h;cases h;exact lu
 have nb:∀ b ps,H b=some (.tbl ps)->b≠a:=λb ps h z=>by rw[z,e] at h;cases h;exact lu
 refine⟨I.ok,I.os,I.bare,⟨I.base.keep,I.base.slot,λb o e1 n hx=>?_,I.base.there,λb xs e1=>?_,λb o v e1=>?_,λb ps e1=>?_⟩,I.loc,I.cell,?_,λx c e1=>?_,λp hp=>?_,λb ob e1=>?_,I.len⟩
 .have:=I.base.free b o e1 n hx;rw[aG (nn b this)];exact this
 .have:=I.base.fU b xs e1;rw[aG (nt b xs this)];exact this
 .have:=I.base.fk b o v e1;rw[aG (show b≠a from λz=>h0 o v (by rw[<- z];exact e1))];exact this
 .obtain⟨more,this⟩:=I.base.fV b ps e1;exact⟨more,by rw[aG (nb b _ this)];exact this⟩
 .rw[aG (nn _ I.free)];exact I.free
 .have:=I.gC x c e1;rw[aG (nn c this)];exact this
 .obtain⟨p1,p2,p3⟩:=I.pin p hp;exact⟨p1,by rw[aG (nn _ p2)];exact p2,p3⟩
 .by_cases hb:b=a
  .subst hb;rw[ar] at e1;cases e1;exact new
  .rw[aG hb] at e1;exact (I.az b ob e1).cK (λ_ _ _ q=>q) (λc h=>by rw[aG (no c _ h)];exact h) λc xs h=>by rw[aG (nt c xs h)];exact h
theorem Pr(I:Inv X pins σ H s)(e:H a=some (.dT kvs)):∃ o,Inv X pins σ (upd H a (.aO o (.dT kvs))) s/\∀ o v,X.H₀ a≠some (.aO o v):=by
 have h0:∀ o v,X.H₀ a≠some (.aO o v):=λo v z=>by have:=I.base.fk a o v z;rw[e] at this;cases this
 have ok:=I.az a _ e;obtain⟨_,_,_,_,o,_,_,ho,_⟩:=id ok;refine⟨o,E5 I e trivial h0 ⟨ho,ok.cK (λ_ _ _ q=>q) (λc h=>?_) λc xs h=>?_⟩,h0⟩
 .rw[aG λz=>by rw[z,e] at h;cases h];exact h
 .rw[aG λz=>by rw[z,e] at h;cases h];exact h
theorem vh(I:Inv X pins σ H s)(e:H a=some (.aO o (.dT kvs)))(h0:∀ o v,X.H₀ a≠some (.aO o v)):Inv X pins σ (upd H a (.dT kvs)) s:=by
 obtain⟨_,ok⟩:=I.az a _ e;refine E5 I e trivial h0 (ok.cK (λ_ _ _ q=>q) (λc h=>?_) λc xs h=>?_)
 .rw[aG λz=>by rw[z,e] at h;cases h];exact h
 .rw[aG λz=>by rw[z,e] at h;cases h];exact h
noncomputable def E6(a:Ye)(o:Obj)(kvs:List (List Key × V))(D:Ends):Ends where
 nx:=λσ H=>H a=some (.aO o (.dT kvs))/\D.nx σ (upd H a (.dT kvs))
 rt:=λv H=>H a=some (.aO o (.dT kvs))/\D.rt v (upd H a (.dT kvs))
 bk:=λσ H=>H a=some (.aO o (.dT kvs))/\D.bk σ (upd H a (.dT kvs))
 ct:=λσ H=>H a=some (.aO o (.dT kvs))/\D.ct σ (upd H a (.dT kvs))
def E7(t:TS):TS:=λD σ H=>∃ a kvs,H a=some (.dT kvs)/\∀ o,t (E6 a o kvs D) σ (upd H a (.aO o (.dT kvs)))
theorem E8{st:ZO}{t:TS}(h:PS X st t):PS X st (E7 t):=by
 rintro pins s σ H D I ⟨a,kvs,e,q⟩;obtain⟨o,I1,h0⟩:=Pr I e;refine aB (h pins s σ _ _ I1 (q o)) λf s' hf=>?_;cases f with
 | next=>obtain⟨σ',H',I',e',q'⟩:=hf;exact⟨σ',_,vh I' e' h0,q'⟩
 | brk=>obtain⟨σ',H',I',e',q'⟩:=hf;exact⟨σ',_,vh I' e' h0,q'⟩
 | cont=>obtain⟨σ',H',I',e',q'⟩:=hf;exact⟨σ',_,vh I' e' h0,q'⟩
 | ret v=>obtain⟨v',σ',H',I',r',e',q'⟩:=hf;exact⟨v',σ',_,vh I' e' h0,r',q'⟩
def Pt(t:TE):TE:=λσ H Q=>∃ a kvs,H a=some (.dT kvs)/\∀ o,t σ (upd H a (.aO o (.dT kvs))) λv H'=>H' a=some (.aO o (.dT kvs))/\Q v (upd H' a (.dT kvs))
noncomputable def gi(o:Obj):List V:=match o.data with
 | .dict es _=>es.toList.map λe=>match e.key with
  | .ref a=>V.ref a
  | _=>V.non
 | _=>[]
noncomputable def qT(a:Ye)(o:Obj)(kvs:List (List Key × V)):It where
 go i H:=H a=some (.aO o (.dT kvs))/\i<kvs.length
 yld i H x H':=H'=H/\(gi o)[i]?=some x
 stop i H:=H a=some (.aO o (.dT kvs))/\kvs.length<=i
def yu(tl:TE):TI:=λσ H R=>tl σ H λx H1=>∃ a o kvs,x = .ref a/\H1 a=some (.aO o (.dT kvs))/\(iA H1 (gi o) kvs->R (qT a o kvs) H1)
theorem yw(ok:bU P w H h)(e:H a=some (.aO o (.dT kvs))):∃ (as:List Ye) (es:Array abP) (ep:Nat),iA H (gi o) kvs/\(a == aab)=false/\fK h a es ep/\o.data = .dict es ep/\es.size=kvs.length/\kvs.length<=Yt/\∀ i (hi:i<es.size),∃ b,es[i].key = .ref b/\(gi o)[i]?=some (.ref b):=by
 obtain⟨ho,z,lo,xs,rel,o',es,ep,cA,hc,hd,he,hn⟩:=ok a _ e;rw[ho] at cA;cases cA;have hl:xs.length=kvs.length:=(Paired.length rel).symm;have hs:es.size=xs.length:=aff he;have ek:gi o=(xs.map (·.2.1)).map V.ref:=by unfold gi;rw[hd];show es.toList.map _=_;rw[he,Y8,Y8];exact ZK λx _=>rfl
 refine⟨xs.map (·.2.1),es,ep,?_,lo,⟨o,ho,hc,hd⟩,hd,hs.trans hl,z,λi hi=>?_⟩
 .rw[ek];exact KT.Ez rel
 .have hx:i<xs.length:=by lia
  have e1:=entry_at he i;rw[YK hi,X0 hx] at e1;have e2:es[i]=entryOfKey (ac7 (eW P w)) xs[i]:=by simpa using e1
  refine⟨xs[i].2.1,by rw[e2];rfl,?_⟩;rw[ek,Yf,Yf,X0 hx];rfl
theorem Pu{P:Y0}{w:Zw}{K:XW}{tg:abD}(a it:Ye)(o:Obj)(kvs:List (List Key × V))(a7:a≠it):Turn P w K tg (qT a o kvs) [it] it (λi h=>∃ es ep,o.data = .dict es ep/\i<=es.size/\h.IsKeyIter it a i es.size ep) where
 mem:=by simp
 obj:=λi h st b hb=>by
  have e:b=it:=by simpa using hb
  subst e;obtain⟨es,ep,_,_,ob,e,c,d⟩:=st;exact⟨ob,e,λv z=>by rw[d] at z;cases z⟩
 keep:=λi h h' st k=>by obtain⟨es,ep,h1,h2,ob,e,c,d⟩:=st;exact⟨es,ep,h1,h2,ob,k it (by simp) ob e,c,d⟩
 item:=by
  intro X hP hw hK hc i pins s σ H E I hf st hg;subst hP hw hK;obtain⟨e,hi⟩:=hg;obtain⟨es,ep,hd,hle,hit⟩:=st;obtain⟨as,es',pN,hk,lo,raw,ig,hs,hz,hkey⟩:=yw I.az e;rw[hd] at ig;cases ig;obtain⟨f0,f1,f2,f3,f4,f5⟩:=hf it (by simp);have cF:i<es.size:=by lia
  obtain⟨b,eb,kb⟩:=hkey i cF;refine Et hit raw cF λh' j6 sb=>?_;have I1:Inv X pins σ H { s with heap:=h' }:=I.turned (t':=s.toks) (λb o hb e=>(sb.2 b hb).trans e) f0 f1 f3 f4 f5;obtain⟨ob,e1,c1,d1⟩:=id j6;exact⟨es[i].key,rfl,nQ (s:={ s with heap:=h' }) e1 c1 d1 (by decide) ⟨.ref b,H,I1,eb,⟨rfl,kb⟩,⟨es,ep,hd,cF,j6⟩,λb hb=>(hf b hb).1⟩⟩
 done:=by
  intro X hP hw hK hc i pins s σ H E I hf st hg;subst hP hw hK;obtain⟨e,hi⟩:=hg;obtain⟨es,ep,hd,hle,hit⟩:=st;obtain⟨as,es',pN,hk,lo,raw,ig,hs,hz,hkey⟩:=yw I.az e;rw[hd] at ig;cases ig;obtain⟨f0,f1,f2,f3,f4,f5⟩:=hf it (by simp);have ei:i=es.size:=by lia
  subst ei;exact Eu (I.ok.hd hc) hit raw λh' eb=>⟨rfl,I.turned (t':=s.toks) (λb o hb e=>eb b o hb e) f0 f1 f3 f4 f5⟩
 self:=λ_ _ _ _ _ st h=>by obtain⟨es,ep,_,_,hit⟩:=st;exact adC hit h
theorem E9(hl:PE X l tl):PI X tg l (yu tl):=by
 intro pins s σ H R I h;refine aB (hl pins s σ H _ I h) λv s1 zq=>?_;obtain⟨x,H1,I1,r1,q1⟩:=zq;obtain⟨a,o,kvs,e,hf,q⟩:=q1;subst e;cases r1;obtain⟨as,es,ep,hk,lo,raw,hd,hs,hz,hkey⟩:=yw I1.az hf;refine Es lo raw ?_;refine⟨s1.heap.objs.size,[s1.heap.objs.size],_,_,H1,rfl,I1.kept (t':=s1.toks) λb o e=>X2 _ e,Pu a _ o kvs (Yk raw.lt),⟨es,ep,hd,YB _,_,Ya _ rfl,rfl,rfl⟩,λb hb=>?_,q hk⟩;have e:b=s1.heap.objs.size:=by simpa using hb
 subst e;exact I1.gE (X9 _) (I1.az.fresh (X9 _))
theorem Pw:i3 (yu tl) g tb D σ H=tl σ H (λx H1=>∃ a o kvs,x = .ref a/\H1 a=some (.aO o (.dT kvs))/\(iA H1 (gi o) kvs->FJ (qT a o kvs) g tb D σ H1)):=rfl
theorem Px(Pv:Nat->L2.St->Hp->Prop)(hk:gi o=xs)(Py:xs.length=kvs.length)(h0:Pv 0 σ H)(hl:∀ i σ H,i<=xs.length->Pv i σ H->H a=some (.aO o (.dT kvs)))(hs:∀ i x σ H,xs[i]?=some x->Pv i σ H->g x σ H λσ2 H2=>tb { D with nx:=Pv (i+1),ct:=Pv (i+1),bk:=D.nx } σ2 H2)(hd:∀ σ H,Pv xs.length σ H->D.nx σ H):FJ (qT a o kvs) g tb D σ H:=by
 refine⟨λi m σ H=>m=xs.length-i/\i<=xs.length/\Pv i σ H,⟨xs.length,by simp,YB _,h0⟩,?_⟩;rintro i m σ H ⟨rfl,hi,p⟩;have q:=hl i σ H hi p;by_cases aS:i<xs.length
 .refine .inr ⟨⟨q,by lia⟩,Pv (i+1),λσ' H' p'=>⟨xs.length-(i+1),by lia,rfl,aS,p'⟩,λx H' y=>?_⟩;obtain⟨e,y⟩:=y;subst e;rw[hk] at y;exact hs i x σ _ y p
 .have e:i=xs.length:=by lia
  subst e;exact .inl ⟨⟨q,by lia⟩,hd σ H p⟩
theorem Pz(hk:gi o=xs)(Py:xs.length=kvs.length):qv (qT a o kvs) (λH=>H a=some (.aO o (.dT kvs))) xs :=
 ⟨λi _ _ h e=>⟨h,by have:=(X6.mp e).1;lia⟩,λi _ _ _ _ y=>⟨y.1,λ_=>hk ▸ y.2⟩,λi _ h hi=>⟨h,by lia⟩⟩
end
theorem yy(e:H a=some u)(h:H p=some v)(ne:v≠u):upd H a w p=some v:=by rw[aG (nM h e ne)];exact h
section
theorem PB(e:H0 a=some (.dT kvs))(s:aj (upd H0 a (.aO o (.dT kvs))) H1):aj H0 (upd H1 a (.dT kvs)):=λb u h=>by
 by_cases hb:b=a
 .subst hb;rw[e] at h;cases h;exact ar
 .rw[aG hb];exact s b u (by rw[aG hb];exact h)
theorem yz(e:H a=some (.dT kvs))(h:H p=some (.tup xs)):upd H a u p=some (.tup xs):=yy e h λz=>nomatch z
theorem PD(e:H a=some (.dT kvs))(h:H p=some (.lst xs)):upd H a u p=some (.lst xs):=yy e h λz=>nomatch z
theorem aI.aO(h:aI H v x y)(e:H a=some (.dT kvs)):aI (upd H a u) v x y:=let ⟨t,e1,h1⟩:=h;⟨t,e1,yz e h1⟩
theorem bw.aO(h:bw H kvs tb)(e:H a=some (.dT kvs)):bw (upd H a u) kvs tb:=h.imp λ_ _ _ z=>z.aO e
theorem PF{K:XW}{xs:List V}(e:H a=some (.dT kvs))(h:ai K H p xs):ai K (upd H a (.aO o (.dT kvs))) p xs:=by
 rcases h with (h|⟨z,h⟩)|h
 .exact .inl (.inl (PD e h))
 .exact .inl (.inr ⟨z,yy e h λz=>nomatch z⟩)
 .exact .inr h
end
theorem fb.z(e:H a=some (.aO o (.dT kvs)))(eb:H b=some (.tup (k.map kV))):fb H a (.ref b) (fw kvs k):=.inr ⟨kvs,k,b,.inr ⟨o,e⟩,rfl,eb,rfl⟩
noncomputable def lz(tb:Tb)(i:Int):List Mk:=((lr tb).filter λr=>decide (r.1.1=i)).map λr=>(r.1.2.toNat,r.2)
noncomputable def ki(cs:List Int)(t:Nat):Int:=cs.getD t 0
theorem PH(h:t<cs.length):(cs.map V.int)[t]?=some (V.int (ki cs t)):=by rw[Yf,X0 h];unfold ki;rw[XZ,X0 h];rfl
noncomputable def lA(X:Cx)(x:Str)(N':List Str)(scope:acU)(cl:List (Str × Ye))(C:Ye)(s2:Yd)(H2:Hp)(ex:List Ye)(pn:List (Ye × Obj)):Cx :=
 { X with N:=N',s₀:=s2,H₀:=H2,env:=aeN scope ((x,(C+1:Nat))::cl) C X.env,outer:=X.stack,ex:=ex,fn:=λy=>y == x,pn:=pn,xe:=λ_ _=>False }
structure mV(X:Cx)(x:Str)(scope:acU)(cl:List (Str × Ye))(fr:List Nat)(ys:List Str):Prop where
 clos:afr scope X.env=pure cl
 one:∀ n acc,PySem.cellsFrom n scope.names acc=(x,n)::acc
 push:∀ h,pushCells h scope.names=h.push { cls:=.type "cell",data:=.cell none }
 kind:scope.kind = .function
 names:(scope.names.all λp=>p.2 != .local || scope.names.lookup p.1 == some .local)=true
 own:scope.names.lookup x=some .cell
 kinds:((relabel scope X.env).names.all λp=>(p.2 != .cell && p.2 != .free) || p.1 == x || (cl.lookup p.1).isSome)=true
 cls:k6 X cl
 aX:jf X scope cl fr ys
 nd:(x::ys).Nodup
 kfr:(ys.all λy=>(relabel scope X.env).names.lookup y == some .cell)=true
theorem Fc{env:Env}:∀ {names:List (Str × acE)} {x:Str},names.lookup x=some .cell ->
 (names.map λ(n,k)=>if (k == NameKind.free && env.scope.kind == .function && env.kindOf n == some .cell) then (n,NameKind.cell) else (n,k)).lookup x=some .cell
 | [],_,h=>by simp at h
 | (n,k)::r,x,h=>by
  have ih:=@Fc env r x;show Z3 x ((if (k == NameKind.free && env.scope.kind == .function && env.kindOf n == some .cell)=true then (n,NameKind.cell) else (n,k))::_)=_;cases hx:x == n with
  | true =>
   simp only[ZG,hx] at h;cases h;simp[ZG,hx]
  | false =>
   simp only[ZG,hx] at h;by_cases hc:(k == NameKind.free && env.scope.kind == .function && env.kindOf n == some .cell)=true
   .rw[if_pos hc];simp only[ZG,hx];exact ih h
   .rw[if_neg hc];simp only[ZG,hx];exact ih h
theorem mW{x y:Str}{a c:Ye}{cl:List (Str × Ye)}(h:((x,a)::cl).lookup y=some c):(y=x/\c=a)∨(y≠x/\cl.lookup y=some c):=by
 rw[ZG] at h;by_cases hy:(y == x)=true
 .rw[hy] at h;cases h;exact .inl ⟨by simpa using hy,rfl⟩
 .rw[aaO.mpr hy] at h;exact .inr ⟨by simpa using hy,h⟩
theorem PJ{x y:Str}{a c:Ye}{cl:List (Str × Ye)}(h:cl.lookup y=some c)(hy:y≠x):((x,a)::cl).lookup y=some c:=by rw[ZG,beq_eq_false_iff_ne.mpr hy];exact h
theorem PK(one:∀ n acc,PySem.cellsFrom n scope.names acc=(x,n)::acc)(push:∀ h,pushCells h scope.names=h.push { cls:=.type "cell",data:=.cell none })(hQ:Q (newEnv scope s.heap.objs.size globals ((x,(s.heap.objs.size+1:Nat))::cl) qual none .none (some env) aef) { s with heap:=(s.heap.push { cls:=.type "dict",data:=.dict #[] }).push { cls:=.type "cell",data:=.cell none } }) :
 Yr M A (ace scope globals cl [] qual none .none (some env)) Q E s:=by
 simp only[ace,ad6,if_true];refine XX (wpAny_alloc ?_);refine XX (wpAny_layCells _ (λname kind cells=>by cases hkc:kind == NameKind.cell<;>simp[hkc]) _ _ _ _ ?_);rw[one,push,show ({ s with heap:=s.heap.push { cls:=.type "dict",data:=.dict #[] } }:Yd).heap.objs.size=s.heap.objs.size+1 from ZM ..];refine XX ?_;rw[List.forIn_nil];exact X3 (X3 hQ)
theorem Fd{X:Cx}{K:XW}{tg l:abD}{tl:TE}(h:X.K=K)(hl:PE X l tl):PI X tg l (t5 K tl):=h ▸ cu hl
section
theorem mV.low(S:mV X x scope cl fr ys)(I2:Inv X pins σ H2 s2)(e:cl.lookup y=some c):c<s2.heap.objs.size:=by obtain⟨v,o,ho,_⟩:=I2.cell y c (S.cls.get y c e);exact X4 ho
theorem PL(S:mV X x scope cl fr ys)(I2:Inv X pins σ H2 s2)(f2:∀ b∈ex,cV X pins H2 b)(hC:s2.heap.objs.size<=C)(hex:∀ b∈ex,b<s2.heap.objs.size):(lA X x (x::ys) scope cl C s2 H2 ex pn).Ok:=by
 refine⟨I2.ok.mod,S.kind,I2.ok.glob,I2.ok.blt,hC,λa b c h1 h2=>?_,λy hy=>?_,λy c hy h1=>?_,I2.ok.hd,I2.ok.frames,.inl rfl,λb hb=>⟨?_,λy c e z=>?_⟩,I2.bs,X5 I2.ok.bsz I2.sz,λb o e hb=>?_,λb hb z=>?_,I2.stack,I2.pM⟩
 .rcases mW h1 with ⟨e1,e2⟩|⟨_,e1⟩<;>rcases mW h2 with ⟨e3,e4⟩|⟨_,e3⟩
  .rw[e1,e3]
  .have:=S.low I2 e3;walk_at "o"
  .have:=S.low I2 e1;walk_at "o"
  .exact I2.ok.inj a b c (S.cls.get a c e1) (S.cls.get b c e3)
 .have xk:(relabel scope X.env).names.lookup y=some .cell∨(relabel scope X.env).names.lookup y=some .free:=hy;have q:(y == x)=true∨(cl.lookup y).isSome=true:=by
   rcases xk with e|e
   .simpa using uy S.kinds e
   .simpa using uy S.kinds e
  show ∃ c,((x,(C+1:Nat))::cl).lookup y=some c;rw[ZG];by_cases hyx:(y == x)=true
  .rw[hyx];exact⟨_,rfl⟩
  .rw[aaO.mpr hyx];exact aam.mp (q.resolve_left hyx)
 .have e:y=x:=by have:(y == x)=true:=hy;simpa using this
  rcases mW h1 with ⟨_,e2⟩|⟨n,_⟩
  .show s2.heap.objs.size<=c;walk_at "o"
  .exact absurd e n
 .exact Yk (Yp (hex b hb) hC)
 .have:=hex b hb;rcases mW e with ⟨_,e2⟩|⟨_,e2⟩
  .walk_at "o"
  .exact (f2 b hb).2.2.2.2.1 y c (S.cls.get y c e2) z
 .obtain⟨_,_,_,d,_,_⟩:=f2 b hb;rcases d with d|d
  .exact I2.ok.noex b o e d
  .exact absurd (Yp (X4 e) (X5 I2.ok.bsz d)) (Zk _)
 .obtain⟨_,d1,d2,_⟩:=f2 b hb;rcases Yi.mp (I2.mf b z) with q|q
  .exact d1 q
  .exact d2 q
theorem PM{J:It}{fp:List Ye}{it:Ye}{tn:Nat->aax->Prop}{E:X7->Yd->Prop}{Q:VK}{RR:X7->Ye->adY->Yd->Prop}
 (S:mV X x scope cl fr ys) (hc:X.calm=true)
 (hb:∀ (C:Ye) (s:Yd) (H:Hp) (ex:List Ye) (pn:List (Ye × Obj)),ir (lA X x (x::ys) scope cl C s H ex pn) ifs tt/\PE (lA X x (x::ys) scope cl C s H ex pn) elt te)
 (I2:Inv X pins σ H2 s2) (T:Turn X.prog X.w X.K (.Name x px) J fp it tn) (d9:tn 0 s2.heap) (f2:∀ b∈fp,cV X pins H2 b)
 (h:jW J (fr.map λj=>(σ[j]?).join) tt te H2 Q)
 (qr:∀ D C s' H',Inv X pins σ H' s'->(∃ m,s'.heap.Ns C m)->cV X pins H' C->Q (.ref D) H'->RR (.ref D) C (.ok .next) s') :
 Yr (model X.prog X.w) X.A (afz []) (λacc s3=>Yr (model X.prog X.w) X.A (ace scope X.env.globals cl [] X.env.qual none .none (some X.env)) (λqu s4 =>
  aaS (model X.prog X.w) X.A (.compStart (.ListComp elt [⟨.Name x px,iter,ifs,0⟩] scope pos) 0 (.ref it) acc { qu with scope:=relabel scope X.env }) (RR acc qu.locals) s4) E s3) E s2:=by
 refine Y5 (PK S.one S.push ?_);dsimp only;generalize eP:s2.heap.push { cls:=.type "list",dict:=none,data:=.seq ([]:List X7).toArray }=P2;have sz:P2.objs.size=s2.heap.objs.size+1:=by rw[<- eP,ZM]
 have jh:s2.heap.objs.size≠P2.objs.size:=by walk_at "o"
 generalize eh:(P2.push { cls:=.type "dict",data:=.dict #[] }).push { cls:=.type "cell",data:=.cell none }=h1;have Fe:∀ b o,P2.get? b=some o->h1.get? b=some o:=λb o e=>by rw[<- eh];exact X2 _ (X2 _ e)
 have keep:∀ b o,s2.heap.get? b=some o->h1.get? b=some o:=λb o e=>Fe b o (eP ▸ X2 _ e);have hD:h1.get? s2.heap.objs.size=some { cls:=.type "list",data:=.seq ([]:List X7).toArray 0 }:=Fe _ _ (eP ▸ Ya _ rfl);have f7:h1.Ns P2.objs.size λ_=>none:=by rw[<- eh];exact (Heap.Ns.new P2 (.type "dict")).keeps λb o e=>X2 _ e
 have pP:h1.IsCell (P2.objs.size+1:Nat) none:=by have e:=Ya (P2.push { cls:=.type "dict",data:=.dict #[] }) (o:={ cls:=.type "cell",data:=.cell none }) rfl;rw[ZM,eh] at e;exact⟨_,e,rfl⟩
 have jk:∀ b∈fp,b<s2.heap.objs.size:=λb hb=>by obtain⟨o,e,_⟩:=T.obj 0 _ d9 b hb;exact X4 e
 generalize eC:P2.objs.size=C at f7 pP jh ⊢;generalize eD:s2.heap.objs.size=D at jh hD;have ji:s2.heap.objs.size<=C:=by walk_at "o"
 have mE:s2.heap.objs.size<=D:=by walk_at "o"
 have xt:(lA X x (x::ys) scope cl C s2 H2 fp (X.pn++pins)).Ok:=PL S I2 f2 ji (λb hb=>by have:=jk b hb;walk_at "o");have qt:=xl I2 f2 ji mE;have I4:Inv (lA X x (x::ys) scope cl C s2 H2 fp (X.pn++pins)) [] (none::fr.map λj=>(σ[j]?).join) H2 { s2 with heap:=h1 }:=by
  refine⟨xt,rfl,I2.bare,Un.kept keep,⟨_,f7,λi y v e1 e2 e3=>?_⟩,λy c e=>?_,I2.az.fresh ji,λy c e=>?_,λp hp=>?_,I2.az.kept keep,?_⟩
  .cases i with
   | zero=>simp at e2
   | succ i =>
    simp only[aav] at e1 e2;have k7:ys[i]?=some y:=e1;obtain⟨j,c,hN,hσ,hk,xu,n6⟩:=S.aX.get i y v k7 e2;obtain⟨m,hm,hl⟩:=I2.loc;obtain⟨u,ru,lu⟩:=hl j y v hN hσ (.inr (.inl hk));have yx:y≠x:=λz=>(Zq.mp S.nd).1 (z ▸ Yo k7);refine⟨u,ru,.inr ⟨.inl ?_,c,PJ xu yx,?_⟩⟩
    .have z:=ZH.mp S.kfr y (Yo k7);exact (by simpa using z:(relabel scope X.env).names.lookup y=some .cell)
    .rcases lu with ⟨z,_⟩|⟨_,c',e',q'⟩
     .rw[hk] at z;cases z
     .rw[n6] at e';cases e';obtain⟨o,ho,hd⟩:=q';exact⟨o,keep _ _ ho,hd⟩
  .rcases mW e with ⟨_,rfl⟩|⟨_,e⟩
   .exact⟨_,pP⟩
   .obtain⟨v,o,ho,hd⟩:=I2.cell y c (S.cls.get y c e);exact⟨v,o,keep _ _ ho,hd⟩
  .rcases mW e with ⟨_,rfl⟩|⟨_,e⟩
   .exact I2.az.fresh (by walk_at "o")
   .exact I2.gC y c (S.cls.get y c e)
  .have dH:p∈X.pn++pins:=by have:p∈(X.pn++pins)++[]:=hp;simpa using this
   obtain⟨e,n,_,_,d⟩:=I2.pin p dH;obtain⟨p1,_,p3,_⟩:=qt p dH;exact⟨keep _ _ e,n,p1,p3,d⟩
  .show (none::fr.map λj=>(σ[j]?).join).length=(x::ys).length;simp[S.aX.len]
 refine Dj (os0:=[none]) hc (fW (X:=lA X x (x::ys) scope cl C s2 H2 fp (X.pn++pins)) (i:=0) S.nd rfl (.inr (Fc S.own)) (.inl (beq_self_eq_true x))) (hb C s2 H2 fp (X.pn++pins)) I2 T d9 f2 (xB h) qr rfl I4 keep hD eD (sz.symm.trans eC) λy c e=>?_;rcases mW e with ⟨_,e2⟩|⟨_,e2⟩
 .exact⟨by walk_at "o",λb hb=>by have:=jk b hb;walk_at "o"⟩
 .have:=S.low I2 e2;exact⟨by walk_at "o",λb hb z=>(f2 b hb).2.2.2.2.1 y c (S.cls.get y c e2) z⟩
theorem Ff(S:mV X x scope cl fr ys)(hc:X.calm=true)(hi:PI X (.Name x px) iter wi)(hb:∀ (C:Ye) (s:Yd) (H:Hp) (ex:List Ye) (pn:List (Ye × Obj)),ir (lA X x (x::ys) scope cl C s H ex pn) ifs tt/\PE (lA X x (x::ys) scope cl C s H ex pn) elt te)(hs:∀ z,Z1 iter X.env z=pure z:=by intro _;rfl):PE X (.ListComp elt [⟨.Name x px,iter,ifs,0⟩] scope pos) (ux wi fr tt te):=by
 intro pins s σ H Q I h;rw[eval_ListComp];refine aba (use:=none) rfl hs S.clos S.kind (λy hy hl=>?_) (aB (hi pins s σ H _ I h) λxv s1 h1=>aB h1 λpV s2 h2=>?_)
 .have z:=ZH.mp S.names y hy;rw[hl] at z;simpa using z
 .obtain⟨it,fp,tn,J,H2,rfl,I2,T,d9,f2,hB⟩:=h2;refine PM (RR:=λacc C=>compPost (model X.prog X.w) X.A X.xe none (EP X pins σ Q) acc C) S hc hb I2 T d9 f2 hB λD C s' H' J' hn fC q=>?_;obtain⟨m,hm⟩:=hn;obtain⟨c0,c1,c2,c3,c4,c5⟩:=fC;exact⟨m,hm,λh' sb=>⟨.ref D,H',J'.turned (it:=C) (λb o hb e=>sb.extBut b o hb e) c0 c1 c3 c4 c5,rfl,q⟩⟩
end
end Gz
namespace Gz
open PySem
theorem slot1{t:afD}{q:Nat}(hp:t.place = #[q])(hd:t.dummies = #[])(j:Nat):t.slot j=if q=j then .live 0 else .empty:=by
 unfold afE ab9;rw[hp,hd];simp only[SetTable.below,Zu,Yg,YY,aaK];by_cases h:q<j
 .have:q≠j:=by lia
  simp[h,this]
 .by_cases e:q=j<;>simp[h,e]
theorem Fg(hp:t.place = #[q])(hd:t.dummies = #[])(hm:t.mask=7)(hf:∀ i,(f i == h)=false) :
 ∀ (n m:Nat) (p:SetTable.Probe),p.more=0->p.j=p.i->p.dummy=none->p.perturb<32 ^ n->p.i<=7->∃ j,j≠q/\aaq t f h (n+(m+2)) p=some (.empty j none)
 | n,m,⟨j,mo,i,pe,du⟩,h1,h2,h3,h4,h5=>by
  dsimp only at h1 h2 h3 h4 h5;subst h1 h3;obtain rfl:i=j:=h2.symm;have ad:t.advance ⟨i,0,i,pe,none⟩=⟨(i * 5+1+pe / 32) % 8,0,(i * 5+1+pe / 32) % 8,pe / 32,none⟩:=by simp[SetTable.advance,SetTable.leap,hm,afg]
  have le:(i * 5+1+pe / 32) % 8<=7:=by lia
  by_cases e:q=i
  .cases n with
   | zero =>
    have z:(i * 5+1+pe / 32) % 8≠q:=by lia
    refine⟨_,z,?_⟩;rw[show 0+(m+2)=(m+1)+1 by lia,aaq,slot1 hp hd,if_pos e];simp only[hf,Yu,if_false];rw[ad,aaq,slot1 hp hd,if_neg (Y1 z)]
   | succ n =>
    obtain⟨j,j1,j2⟩:=Fg hp hd hm hf n m ⟨_,0,_,pe / 32,none⟩ rfl rfl rfl (by dsimp only;rw[afU] at h4;exact Nat.div_lt_of_lt_mul (by lia)) le;refine⟨j,j1,?_⟩;rw[show n+1+(m+2)=(n+(m+2))+1 by lia,aaq,slot1 hp hd,if_pos e];simp only[hf,Yu,if_false];rw[ad];exact j2
  .refine⟨i,Y1 e,?_⟩;rw[show n+(m+2)=(n+m+1)+1 by lia,aaq,slot1 hp hd,if_neg e]
structure gj(t:afD)(L:List (Nat × Int × X7)):Prop where
 pl:t.place=(L.map (·.1)).toArray
 du:t.dummies = #[]
 ma:t.mask=7
 sh:L=[]∨(∃ a,L=[a]) ∨ ∃ a b,L=[a,b]/\a.1<b.1
section
theorem gj.fits(k:gj t L):t.fits (L.map (·.2)).toArray.size=true:=by obtain⟨h1,h2,h3,h4⟩:=k;rcases h4 with rfl|⟨a,rfl⟩|⟨a,b,rfl,_⟩<;>simp[SetTable.fits,acL,h1,h2,h3]
theorem gj.zero(k:gj t L):SetTable.below t.place 0=0:=by obtain⟨h1,h2,h3,h4⟩:=k;rcases h4 with rfl|⟨a,rfl⟩|⟨a,b,rfl,_⟩<;>simp[h1,SetTable.below,Zu]
theorem gj.next(k:gj t L)(hi:i<L.length):SetTable.below t.place (L[i].1+1)=i+1:=by
 obtain⟨h1,h2,h3,h4⟩:=k;rw[h1];rcases h4 with rfl|⟨a,rfl⟩|⟨a,b,rfl,z⟩
 .cases hi
 .obtain rfl:i=0:=by simpa using hi
  simp[SetTable.below,Zu]
 .match i,hi with
  | 0,_ =>
   have:¬ b.1<a.1+1:=by lia
   simp[SetTable.below,Zu,this]
  | 1,_=>simp[SetTable.below,Zu]
theorem gj.free(k:gj t L)(hl:L.length<=1)(h:Int):∃ j,t.freeSlot h=some (j,false)/\j∉L.map (·.1):=by
 obtain⟨h1,h2,h3,h4⟩:=k;rcases h4 with rfl|⟨a,rfl⟩|⟨a,b,rfl,_⟩
 .refine⟨SetTable.bits h % 8,?_,λhx=>nomatch hx⟩;simp[aey,afl,afm,abV,h3,aaq,afE,ab9,h1,h2,SetTable.below,Zu]
 .have bt:SetTable.bits h<2 ^ 64:=by unfold SetTable.bits;lia
  obtain⟨j,j1,j2⟩:=Fg (q:=a.1) h1 h2 h3 (f:=λ_=>h+1) (h:=h) (λ_=>by simp;lia) 13 205 (t.probeStart h) (by simp[abV,h3,afg]) rfl rfl (Yp bt (by decide)) (by simp only[abV,h3];lia);refine⟨j,?_,by simpa using j1⟩;unfold aey afl afm;rw[h3,j2];rfl
 .simp at hl
theorem gj.put(k:gj t L)(hl:L.length<=1)(hj:j∉L.map (·.1))(h:Int)(x:X7) :
 ∃ t' p L',t.put j=(t',p)/\gj t' L'/\abr (L.map (·.2)).toArray p (h,x)=(L'.map (·.2)).toArray/\t'.led=t.led/\t'.plain=t.plain/\t'.fill=L.length+1/\L'.Perm ((j,h,x)::L):=by
 obtain⟨h1,h2,h3,h4⟩:=k;rcases h4 with rfl|⟨a,rfl⟩|⟨a,b,rfl,_⟩
 .refine⟨_,_,[(j,h,x)],rfl,⟨?_,?_,h3,.inr (.inl ⟨_,rfl⟩)⟩,?_,rfl,rfl,?_,.refl _⟩<;>simp[acL,ab9,abr,h1,h2,SetTable.below,Zu]
 .have hj:j≠a.1:=by simpa using hj
  by_cases z:a.1<j
  .refine⟨_,_,[a,(j,h,x)],rfl,⟨?_,?_,h3,.inr (.inr ⟨_,_,rfl,z⟩)⟩,?_,rfl,rfl,?_,.swap _ _ _⟩<;>simp[acL,ab9,abr,h1,h2,SetTable.below,Zu,z]
  .refine⟨_,_,[(j,h,x),a],rfl,⟨?_,?_,h3,.inr (.inr ⟨_,_,rfl,show j<a.1 by lia⟩)⟩,?_,rfl,rfl,?_,.refl _⟩<;>simp[acL,ab9,abr,h1,h2,SetTable.below,Zu,z]
 .simp at hl
end
end Gz
namespace Gz
open PySem PySem.Spec PyProof.Rows L2
theorem Fh:Manifest.owners.lookup (String.ofList ['r','o','t','a','r','e','t','i','_','t','e','s'].reverse)=some Manifest.sig_set_iterator:=by kernel_rfl
theorem oK:Slot "set_iterator" "__next__" "set_iterator.__next__" :=
 .of (owner := "set_iterator") (n := "__next__") (by rw[abW,aaL];kernel_rfl) (by decide +kernel) (by decide +kernel) (by decide +kernel)
  (by first|exact .inl (by decide +kernel)|exact .inr (by decide +kernel)) (by rw[adH];kernel_rfl)
theorem Fi:ab8 table "set_iterator.__next__" = some aaJ.«set_iterator.__next__»:=entryFor_of_tree (by kernel_rfl)
theorem Fj(a:X7):adj "set_iterator.__next__" ⟨[a],[]⟩:=by unfold adj;rw[signature?_of (id := "set_iterator.__next__") (n:=['_','_','t','x','e','n','_','_']) (o:=['r','o','t','a','r','e','t','i','_','t','e','s']) (by kernel_rfl) Fh];kernel_rfl
theorem PN:ab8 table "set.__iter__" = some aaJ.«frozenset.__iter__» :=
 entryFor_alias (id' := "frozenset.__iter__") (by kernel_rfl) (by first|rfl|decide +kernel) (by decide +kernel) (by kernel_rfl)
section
theorem PQ(hT:s.TypeIs (.ref d) "set")(q:Q false s):Yr (model prog w) A (aaM (.ref d)) Q E s:=by
 unfold aaM;refine XX (abU hT PySem.F.slot_set_len.lookup ?_);generalize hid:("set.__len__" : String)=PR
 wp_delta
 rw[show splitId PR=some ("set","__len__") from by subst hid;decide +kernel];subst hid;refine XX (aa4 (T := "set") (b:=true) hT (by rw[adH];kernel_rfl) ?_);refine abh (λfH=>absurd fH (by decide)) (λ_=>?_);refine abh (λ_=>?_) (λfH=>absurd (by decide +kernel) fH);refine XX (wpAny_typeOf hT ?_);exact X3 q
theorem Fl:YO "set" = some (.type "set"):=by decide +kernel
end
def iC(h:aax)(a:Ye)(p:P2):Prop:=∃ o t u n,h.get? a=some o/\o.cls = .type "tuple" /\ o.data = .seq #[.int p.1 t,.int p.2 u] n
theorem iC.keep(x:iC h a p)(k:∀ o,h.get? a=some o->h'.get? a=some o):iC h' a p:=let ⟨o,t,u,n,e,r⟩:=x;⟨o,t,u,n,k o e,r⟩
section
theorem Fo(h:Q (.bool (decide (x<y))) s):Yr (model prog w) A (acH .Lt (.int x t) (.int y u)) Q E s :=
 richCompare_gives (op:=.Lt) (afq s _ t) (afq s _ u) PySem.F.slot_int_lt PySem.F.entry_int_lt (PySem.F.args_int_lt_2 _ _) (gives_int_lt _ _ t u) (λx=>nomatch x) h
theorem vk(ha:iC s.heap a p)(hb:iC s.heap b q)(hu:A.units<adh)(h:Q (.bool (fe p q)) s):Yr (model prog w) A (acH .Lt (.ref a) (.ref b)) Q E s:=by
 obtain⟨oa,t1,u1,n1,qU,hca,hda⟩:=ha;obtain⟨ob,t2,u2,n2,hob,hcb,fY⟩:=hb;have Ta:s.TypeIs (.ref a) "tuple" := ⟨oa,qU,hca⟩;have Tb:s.TypeIs (.ref b) "tuple" := ⟨ob,hob,hcb⟩;refine wpAny_richCompare_same_room Ta Tb adn (Zj adn Ta PySem.F.entry_tuple_lt ?_ (PySem.F.args_tuple_lt_2 _ _)) hu;show Yr _ _ (isInstance (.ref b) (.type "tuple") >>= _) _ _ s;refine XX (aa4 Tb isSubtype_tuple_tuple ?_);simp only[aeb,Yu,if_false];refine XX (aec qU hda ?_);refine XX (aec hob fY ?_);refine XX ?_;refine wpAny_forIn_list _ (λrest r s'=>r.1=none/\s'=s/\(rest=[(.int p.1 t1,.int q.1 t2),(.int p.2 u1,.int q.2 u2)]∨(rest=[(.int p.2 u1,.int q.2 u2)]/\p.1=q.1)∨(rest=[]/\p.1=q.1/\p.2=q.2))) _ ?_ ?_ _ _ ⟨rfl,rfl,.inl rfl⟩
 .rintro ⟨u,v⟩ rest r s' ⟨hr,rfl,hz⟩;rcases hz with hz|⟨hz,e1⟩|⟨hz,_⟩
  .cases hz;refine XX (acP ?_);by_cases e:p.1=q.1
   .rw[show (p.1 == q.1)=true by simpa using e];simp only[aeb,Yu,if_false];exact X3 ⟨rfl,rfl,.inr (.inl ⟨trivial,e⟩)⟩
   .rw[show (p.1 == q.1)=false by simpa using e];simp only[afn,if_true];refine XX (adu (XX (Fo (XX (X3 (X3 (X3 ⟨_,rfl,λz=>(nomatch z),?_⟩)))))));have e2:fe p q=decide (p.1<q.1):=by unfold fe;rw[decide_eq_false e];simp
    rw[<- e2];exact h
  .cases hz;refine XX (acP ?_);by_cases e:p.2=q.2
   .rw[show (p.2 == q.2)=true by simpa using e];simp only[aeb,Yu,if_false];exact X3 ⟨rfl,rfl,.inr (.inr ⟨trivial,e1,e⟩)⟩
   .rw[show (p.2 == q.2)=false by simpa using e];simp only[afn,if_true];refine XX (adu (XX (Fo (XX (X3 (X3 (X3 ⟨_,rfl,λz=>(nomatch z),?_⟩)))))));have e2:fe p q=decide (p.2<q.2):=by unfold fe;rw[e1];simp
    rw[<- e2];exact h
  .cases hz
 .rintro ⟨r1,r2⟩ s' ⟨hr,rfl,hz⟩;simp only at hr;subst hr;rcases hz with hz|⟨hz,_⟩|⟨_,e1,e2⟩
  .cases hz
  .cases hz
  .refine X3 ⟨_,rfl,λz=>(nomatch z),?_⟩;have e3:fe p q=false:=by unfold fe;rw[e1,e2];simp
   rw[e3] at h;exact h
theorem PU(hh:A.handled=none)(ha:iC s.heap a p)(hb:iC s.heap b q)(hu:A.in1.units<adh)(h:∀ h' tk,(∀ c o,s.heap.get? c=some o->h'.get? c=some o)->Q (.ref (if fe q p=true then b else a)) { s with heap:=h',toks:=tk }):Yr (model prog w) A (call (.builtin "min") [.ref a,.ref b]) Q E s:=by
 have nm:(toString "min" ++ toString ".loop" : String) = "min.loop" := by decide
 refine call_function_tree aeJ aes aet (PySem.F.args_min2 _ _) ?_;show Yr _ A.in1 (Z6 "min" ["key","default"] 0 ⟨[],[]⟩ >>= _) _ _ s;refine XX (acJ (show Z6 "min" ["key","default"] 0 ⟨[],[]⟩=pure [none,none] from rfl) ?_);show Yr _ A.in1 (afC [.ref a,.ref b] >>= _) _ _ s;refine XX (Y5 ?_);have hT:(s.heap.push { cls:=.type "tuple",data:=.seq #[.ref a,.ref b] }).IsTuple s.heap.objs.size #[.ref a,.ref b]:=⟨_,Ya _ rfl,rfl,0,rfl⟩
 refine XX (adW hT ?_);show Yr _ A.in1 (afz [] >>= _) _ _ _;refine XX (Y5 ?_);generalize e1:s.heap.push { cls:=.type "tuple",data:=.seq #[.ref a,.ref b] }=h1 at hT;have z1:h1.objs.size=s.heap.objs.size+1:=by rw[<- e1];exact ZM ..
 have k1:∀ c o,s.heap.get? c=some o->h1.get? c=some o:=λc o e=>by rw[<- e1];exact X2 _ e
 dsimp only;generalize e2:h1.push { cls:=.type "tuple_iterator",data:=.fields #[.ref s.heap.objs.size,.int 0 0] }=h2;have z2:h2.objs.size=h1.objs.size+1:=by rw[<- e2];exact ZM ..
 have k2:∀ c o,h1.get? c=some o->h2.get? c=some o:=λc o e=>by rw[<- e2];exact X2 _ e
 have W:=Walks.tuple (prog:=prog) (w:=w) (A:=A.in1) hh h1.objs.size s.heap.objs.size (by rw[z1];exact Yk (aaZ _)) #[.ref a,.ref b];have xD:h2.IsTupleIter h1.objs.size s.heap.objs.size 0/\h2.IsTuple s.heap.objs.size #[.ref a,.ref b]:=⟨⟨_,by rw[<- e2];exact Ya _ rfl,rfl,rfl⟩,by rw[<- e2];exact hT.push _⟩
 have zs:h2.objs.size∉[h1.objs.size,s.heap.objs.size]:=λz=>by
  simp only[Yi,aa2,or_false] at z;rcases z with z|z
  .rw[z2] at z;exact aeM _ z
  .rw[z2,z1] at z;exact absurd z (by intro z;have:s.heap.objs.size<s.heap.objs.size+1+1:=aaQ (aaZ _);rw[z] at this;exact Zk _ this)
 have nS:h2.objs.size∉[h1.objs.size]:=λz=>zs (by simp at z;simp[z]);have up:∀ c o,s.heap.get? c=some o->c∉[h1.objs.size]/\c≠h2.objs.size/\(h2.push { cls:=.type "list",data:=.seq #[] }).get? c=some o:=λc o e=>by have l1:=X4 (k1 c o e);have l2:=X4 (k2 c o (k1 c o e));exact⟨λz=>by simp at z;rw[z] at l1;exact Zk _ l1,Yk l2,X2 _ (k2 c o (k1 c o e))⟩
 let G:aax->Prop:=λh=>iC h a p/\iC h b q;have bp:∀ (x:Ye) (r:P2),iC s.heap x r->x∉[h1.objs.size]/\x≠h2.objs.size:=λx r hx=>by obtain⟨o,_,_,_,e,_⟩:=hx;exact⟨(up x o e).1,(up x o e).2.1⟩
 have hG:∀ h h',G h->(∀ b o,b∉[h1.objs.size]->b≠h2.objs.size->h.get? b=some o->h'.get? b=some o)->G h':=λh h' g k=>⟨g.1.keep λo e=>k a o (bp a p ha).1 (bp a p ha).2 e,g.2.keep λo e=>k b o (bp b q hb).1 (bp b q hb).2 e⟩
 let bt:Nat->Nat->Bool:=λi j=>fe (if i=0 then p else q) (if j=0 then p else q);have Fp:∀ i v,(#[YC a,YC b]:Array X7)[i]?=some v->(i=0/\v = .ref a)∨(i=1/\v = .ref b):=λi v e=>by
  match i,e with
  | 0,e=>cases e;exact .inl ⟨rfl,rfl⟩
  | 1,e=>cases e;exact .inr ⟨rfl,rfl⟩
  | i+2,e=>simp at e
 have qw:∀ i j vi vj (s:Yd) (Q:X7->Yd->Prop) (E:X7->Yd->Prop),(#[YC a,YC b]:Array X7)[i]?=some vi->(#[YC a,YC b]:Array X7)[j]?=some vj->G s.heap->Q (.bool (bt i j)) s->Yr (model prog w) A.in1 (acH .Lt vi vj) Q E s:=by
  intro i j vi vj s Q E ei ej g hq;rcases Fp i vi ei with ⟨rfl,rfl⟩|⟨rfl,rfl⟩<;>rcases Fp j vj ej with ⟨rfl,rfl⟩|⟨rfl,rfl⟩
  .exact vk g.1 g.1 hu hq
  .exact vk g.1 g.2 hu hq
  .exact vk g.2 g.1 hu hq
  .exact vk g.2 g.2 hu hq
 have g0:G (h2.push { cls:=.type "list",data:=.seq #[] }):=⟨ha.keep λo e=>(up a o e).2.2,hb.keep λo e=>(up b o e).2.2⟩
 have oS:(h2.push { cls:=.type "list",data:=.seq #[] }).get? h2.objs.size=some { cls:=.type "list",dict:=none,data:=.seq #[] 0,slots:=#[] }:=Ya _ rfl;have og:=W.frame 0 h2 (h2.push { cls:=.type "list",data:=.seq #[] }) xD λb _ o q=>X2 _ q;rw[nm];refine X3 ⟨ZX aaa _,?_⟩;refine Zb abk ?_;rw[YV aaa _];show Yr _ A.in1 (ad2 (.ref h2.objs.size) >>= _) _ _ _;refine XX (aaT oS rfl ?_);show Yr _ A.in1 (tryCatch (aaE (.ref h1.objs.size)) _ >>= _) _ _ _;refine XX (aaU (W.item 0 _ _ _ (by simp) og λv h3 tk pv d9 kp=>?_));have ix:=kp _ _ nS oS;show Yr _ A.in1 (acu h2.objs.size (λ_=>#[v,v]) >>= _) _ _ _;refine XX ?_;refine Z5 ix rfl ?_;rw[nm];have g3:G h3:=hG _ _ g0 λb o hw _ e=>kp b o hw e;refine X3 ⟨ZX aaa _,(Dx (by decide) abk aaa) W hG qw zs 1 0 _ v _ (by simp) (W.frame _ _ _ d9 λb hf o e=>?_) (hG _ _ g3 λb o _ lg e=>(Yl _ _ (Y1 lg)).trans e) pv (YQ _ ix rfl) λv2 h4 PV p4 k4=>?_⟩
 .exact (Yl _ _ (λz:h2.objs.size=b=>zs (by rw[z];exact hf))).trans e
 .have ev:v2 = .ref (if fe q p=true then b else a):=by
   have e4:(#[YC a,YC b]:Array X7)[abR bt 1]?=some v2:=by simpa using p4
   have yc:abR bt 1=if fe q p=true then 1 else 0:=by show (if bt 1 0 then 1 else 0)=_;rfl
   rw[yc] at e4;by_cases hl:fe q p=true
   .rw[if_pos hl] at e4 ⊢;cases e4;rfl
   .rw[if_neg hl] at e4 ⊢;cases e4;rfl
  subst ev;refine h h4 PV λc o e=>?_;obtain⟨u1,u2,u3⟩:=up c o e;exact k4 c o u1 u2 ((Yl _ _ (Y1 u2)).trans (kp c o u1 u3))
def Fq(H:Hp)(Q:VK)(xs:List V):Prop:=∃ (a b:Ye) (p q:P2),xs=[.ref a,.ref b]/\H a=some (.tup [.int p.1,.int p.2])/\H b=some (.tup [.int q.1,.int q.2])/\Q (.ref (if fe q p=true then b else a)) H
theorem PX(hc:X.calm=true)(hu:X.A.units+1<adh):fu X (.builtin "min") (λxs H Q=>Fq H Q xs):=by
 intro pins s σ H xs us Q I r h;obtain⟨a,b,p,q,rfl,ha,hb,hq⟩:=h;obtain⟨u,v,rfl,ru,rv⟩:=vals2 r;cases ru;cases rv;have pr:∀ (x:Ye) (r:P2),H x=some (.tup [.int r.1,.int r.2])->iC s.heap x r:=λx r hx=>by
  obtain⟨_,aq,hv,hi⟩:=(show bK X.prog X.w H s.heap x (.tup [.int r.1,.int r.2]) from I.az x _ hx)
  obtain⟨u1,u2,rfl,⟨t1,rfl⟩,⟨t2,rfl⟩⟩:=vals2 hv;obtain⟨o,ho,bh,n,hd⟩:=hi;exact⟨o,t1,t2,n,ho,bh,hd⟩
 exact PU (I.ok.hd hc) (pr a p ha) (pr b q hb) (show X.A.units+1<adh from hu) λh' tk k=>⟨.ref _,H,I.kept k,rfl,hq⟩
end
local macro_rules | `(tactic| walk_at "o") => `(tactic| ((try simp only [PySem.Addr] at *); lia))
section
end
section
def Fs(vs:List X7)(kis:List (List Int))(i:Nat):Prop:=∃ x t,vs[i]?=some (.int x t)/\kis.getD i []=[x]
theorem PY(hk:∀ i,i<vs.length->Fs vs kis i):uV prog w h vs kis:=λh2=>by
 refine⟨oneType',λA E s e=>⟨λQ q=>PySem.W.kas_kind (T:=.type "int") h2 (λv hv=>?_) (by decide) (by decide) q,λi j hi hj C q=>?_⟩⟩
 .obtain⟨i,hi,rfl⟩:=adQ hv;obtain⟨x,tt,e,_⟩:=hk i hi;rw[X0 hi] at e;rw[Option.some.inj e];exact PySem.W.Looks.now
 .obtain⟨x1,t1,a1,l1⟩:=hk i hi;obtain⟨x2,t2,a2,l2⟩:=hk j hj;rw[XZ,XZ,a1,a2];refine PySem.W.kat_lt_int (cast (congrArg (λb=>C b s) ?_) q);unfold cN;rw[l1,l2,HT.nW];by_cases e:x1=x2
  .rw[if_pos e,e];simp[HT.lexLt]
  .rw[if_neg e]
theorem PZ(hl:kis.length=vs.length)(dw:vs.length<64)(hk:∀ i,i<vs.length->Fs vs kis i)(qI:∀ (A':ZP) (Q':List X7->Yd->Prop) (E':X7->Yd->Prop),A'.handled=A.handled->(∀ h' tk,(∀ b o,s.heap.get? b=some o->h'.get? b=some o)->s.heap.objs.size<=h'.objs.size->Q' vs { s with heap:=h',toks:=tk })->Yr (model prog w) A' (collect (.ref r)) Q' E' s)(q:∀ l h' tk,s.heap.objs.size<=l->(∀ b o,s.heap.get? b=some o->h'.get? b=some o)->(∃ c,h'.get? l=some (aaD "list" (aah ((cG (cN kis) vs.length).toList.map λi=>vs.getD i Value.none)) c))->Q (.ref l) { s with heap:=h',toks:=tk }) :
 Yr (model prog w) A (call (.builtin "sorted") [.ref r]) Q E s:=Ex hl dw (λg _=>PY hk) qI q
end
noncomputable def mX(w:Zw):Bool:=!(w.params.followText "set-order")
section
noncomputable abbrev iD(w:Zw):Obj:={ cls:=.type "set",dict:=none,data:=.set #[] 0 (.fresh 0 0 (mX w)) }
theorem P4(a:X7)(h:Q₁ (.ref s.heap.objs.size) { s with heap:=s.heap.push (iD w) }) :
 aaS (model prog w) A (.call (.builtin "set.__new__") ⟨[.type "set",a],[]⟩) (wants Q₁ E) s:=by
 refine afh (show Yr _ A.in1 (do aeI "set.__new__" ⟨[.type "set",a],[]⟩;again (.builtin "set.__new__" ⟨[.type "set",a],[]⟩)) _ _ s from ?_);refine XX (acJ (PySem.F.newCall_set_1 a) (X3 ⟨ZX ado _,Zb PySem.F.entry_set_new ?_⟩));rw[YV ado _];unfold aaJ.«set.__new__» Builtin.Frozenset.newClass;have vm:=PySem.sub_set_self;obtain⟨hp,g,d,tk,os⟩:=s;dsimp only;wp_walk;refine aa5 (X3 ?_);dsimp only;simp only[newObj];exact XX (wpAny_alloc (X3 (X3 h)))
theorem P5{h:aax}{S:Ye}{o:Obj}{es es':Array (Int × X7)}{ep:Nat}{t t':afD}(g1:h.get? S=some o)(g3:o.data = .set es ep t) :
 (h.update S (afv es' t')).get? S=some { o with data:=.set es' (ep+1) t' }:=by
 have:=YQ (afv es' t') g1 (by rw[putSet_of es' t' g3];rfl);rw[putSet_of es' t' g3] at this;exact this
theorem Ft:∀ {xs:List α} {l:List β},l.Perm (xs.map f)->∃ ys:List α,l=ys.map f/\ys.Perm xs:=by
 intro xs l h;generalize hz:xs.map f=z at h
 induction h generalizing xs with
 | nil=>exact⟨[],rfl,by cases xs with|nil=>exact .nil|cons=>cases hz⟩
 | @cons a l1 l2 p ih =>
  cases xs with
  | nil=>cases hz
  | cons x xs =>
   obtain⟨e1,e2⟩:=List.cons.inj hz;obtain⟨ys,rfl,q⟩:=ih e2;exact⟨x::ys,by rw[<- e1];rfl,q.cons x⟩
 | swap a b l =>
  cases xs with
  | nil=>cases hz
  | cons x xs =>
   cases xs with
   | nil=>simp at hz
   | cons y xs =>
    simp only[Ys,List.cons.injEq] at hz;obtain⟨e1,e2,e3⟩:=hz;exact⟨y::x::xs,by simp[e1,e2,e3],.swap x y xs⟩
 | trans p q xQ xR =>
  obtain⟨ys,e,r⟩:=xR hz;obtain⟨zs,e',r'⟩:=xQ e.symm;exact⟨zs,e',r'.trans r⟩
end
theorem Fu:Slot "set_iterator" "__iter__" "set_iterator.__iter__" :=
 .of (owner := "set_iterator") (n := "__iter__") (by rw[abW,aaL];kernel_rfl) (by decide +kernel) (by decide +kernel) (by decide +kernel)
  (by first|exact .inl (by decide +kernel)|exact .inr (by decide +kernel)) (by rw[adH];kernel_rfl)
theorem P6:ab8 table "set_iterator.__iter__" = some aaJ.«dict_keyiterator.__iter__» :=
 entryFor_alias (id' := "dict_keyiterator.__iter__") (by kernel_rfl) (by first|rfl|decide +kernel) (by decide +kernel) (by kernel_rfl)
theorem P7(a:X7):adj "set_iterator.__iter__" ⟨[a],[]⟩:=by unfold adj;rw[signature?_of (id := "set_iterator.__iter__") (n:=['_','_','r','e','t','i','_','_']) (o:=['r','o','t','a','r','e','t','i','_','t','e','s']) (by kernel_rfl) Fh];kernel_rfl
theorem Fv(f:Nat->Nat):∀ (n k:Nat) (left:List α) (out:Array α),left.length=n->(pickOrder.go f n k left out).toList.Perm (out.toList++left)
 | 0,k,left,out,h=>by obtain rfl:left=[]:=ZY.mp h;unfold pickOrder.go;simp
 | n+1,k,left,out,h=>by have hl:f k % left.length<left.length:=Nat.mod_lt _ (by lia);unfold pickOrder.go;rw[X0 hl];refine (Fv f n (k+1) _ _ (by rw[List.length_eraseIdx_of_lt hl];lia)).trans ?_;rw[aez,acw];refine List.Perm.append_left _ ?_;have:=List.perm_middle (a:=left[f k % left.length]) (l₁:=left.take (f k % left.length)) (l₂:=left.drop (f k % left.length+1));rw[List.eraseIdx_eq_take_drop_succ];refine .trans ?_ (.of_eq (aai (f k % left.length) left));rw[Y3 hl];exact this.symm
theorem P8(f:Nat->Nat)(xs:Array α):(afV f xs).toList.Perm xs.toList:=by unfold afV;simpa using Fv f xs.size 0 xs.toList #[] (by simp)
section
noncomputable def iE(w:Zw)(S:Ye)(ep:Nat)(es:Array (Int × X7)):Array (Int × X7):=if w.params.followText "set-order" then afV (w.params.setOrder S ep) es else es
theorem yA(w:Zw)(S:Ye)(ep:Nat)(es:Array (Int × X7)):(iE w S ep es).toList.Perm es.toList:=by
 unfold iE;split
 .exact P8 _ _
 .exact .refl _
structure oM(w:Zw)(S:Ye)(o:Obj)(ep:Nat)(t:afD)(L:List (Nat × Int × X7)):Prop where
 cls:o.cls = .type "set"
 dat:o.data = .set (L.map (·.2)).toArray ep t
 tok:gj t L
 led:t.led=mX w
 pln:t.plain=true
theorem P9(x:oM w S o ep t L)(h:s.heap.get? S=some o)(q:Q false s):Yr (model prog w) A (setDrawn S) Q E s:=by unfold setDrawn afw;refine XX (abt h x.dat x.tok.fits ?_);dsimp only;refine XX (XX (aa5 (X3 (X3 ?_))));refine cast (congrArg (λb=>Q b s) ?_) q;symm;rw[Bool.and_eq_false_iff];right;show (!t.plain && _)=false;rw[x.pln];rfl
noncomputable abbrev yB(S:Ye)(n ep:Nat)(sl i:Int):Obj:={ cls:=.type "set_iterator",data:=.fields #[abj sl,abj i,.ref S,abj n,abj ep] }
theorem Qa(x:oM w S o ep t L)(h:s.heap.get? S=some o)(hQ:Q (.ref s.heap.objs.size) { s with heap:=s.heap.push (yB S L.length ep 0 0) }):Yr (model prog w) A (afK (.ref S)) Q E s:=by have hT:s.TypeIs (.ref S) "set" := ⟨o,h,x.cls⟩;refine acx hT afi (Zj afi hT PN ?_ (F.args_set_iter_1 _));unfold aaJ.«frozenset.__iter__»;refine XX (m:=Builtin.Frozenset.slot0 _ _) (X3 ?_);refine XX (m:=Builtin.Frozenset.sizeOf _) (XX (abX h x.dat x.tok.fits (X3 ?_)));refine XX (P9 x h ?_);simp only[Yu,if_false];refine XX (X3 ?_);refine XX (wpAny_setEpoch_of h x.dat x.tok.fits ?_);refine XX (Y5 (X3 ⟨_,rfl,"set_iterator",_,⟨_,Ya _ rfl,rfl⟩,oK.lookup,?_⟩));refine cast (congrArg (λb=>Q _ { s with heap:=s.heap.push b }) ?_) hQ;simp[yB]
theorem Fw(x:oM w S o ep t L)(h:s.heap.get? S=some o)(hb:w.params.followText "set-order" = false->SetTable.below t.place sl=i)(q:∀ fo,(w.params.followText "set-order" = false->i<L.length->SetTable.below t.place fo=i+1)->Q (((iE w S ep (L.map (·.2)).toArray)[i]?).map λe=>(e.2,fo)) s):Yr (model prog w) A (af1 S sl i ep) Q E s:=by
 unfold af1 afw;refine XX (abt h x.dat x.tok.fits ?_);dsimp only;refine XX (XX (aa5 (X3 ?_)));unfold iE at q;cases hf:w.params.followText "set-order" with
 | true =>
  simp only[hf,if_true] at q;rw[if_pos (show (model prog w).w.params.followText "set-order" = true from hf),if_neg (by simp)];unfold setWalk afw;refine XX (XX (abt h x.dat x.tok.fits ?_));refine XX (XX (aa5 (X3 ?_)));rw[if_pos (show (model prog w).w.params.followText "set-order" = true from hf)];exact XX (aa5 (X3 (X3 (q sl (λhz=>nomatch hz)))))
 | false =>
  simp only[hf,Yu,if_false] at q;rw[if_neg (show ¬ (model prog w).w.params.followText "set-order" = true from by rw[show (model prog w).w.params.followText "set-order" = false from hf];decide)];refine abh (λz=>absurd (show (!t.plain && _)=true from z) (by rw[x.pln];simp)) (λ_=>?_);have hl:t.led=true:=by rw[x.led];unfold mX;rw[hf];rfl
  refine XX ?_;show Yr _ _ (if (!t.led && !(L.map (·.2)).toArray.isEmpty)=true then _ else pure _) _ _ _;rw[if_neg (by rw[hl];simp)];refine X3 (X3 ?_);rw[hb hf];by_cases hi:i<L.length
  .have e1:(L.map (·.2)).toArray[i]?=some L[i].2:=by simp[hi]
   have e2:t.place[i]?=some L[i].1:=by rw[x.tok.pl];simp[hi]
   have:=q (L[i].1+1) λ_ _=>x.tok.next hi
   rw[e1] at this ⊢;rw[e2];exact this
  .have e1:(L.map (·.2)).toArray[i]?=none:=by simp;lia
   have:=q 0 λ_ hz=>absurd hz hi;rw[e1] at this ⊢;exact this
theorem Qb(hh:A.handled=none)(x:oM w S o ep t L)(a7:S≠I):Walks prog w A I [I,S] [I] L.length (λi v=>((iE w S ep (L.map (·.2)).toArray)[i]?).map (·.2)=some v)
 (λi h=>h.get? S=some o/\∃ sl:Nat,h.get? I=some (yB S L.length ep sl i)/\(w.params.followText "set-order" = false->SetTable.below t.place sl=i)) where
 sub:=λb hb=>by simp at hb;simp[hb]
 frame:=λ_ _ _ st hk=>⟨hk S (by simp) _ st.1,let ⟨sl,a,b⟩:=st.2;⟨sl,hk I (by simp) _ a,b⟩⟩
 item:=λi s Q E hi st hQ=>by
  obtain⟨h1,sl,hI,hb⟩:=st;have hT:s.TypeIs (.ref I) "set_iterator" := ⟨_,hI,rfl⟩;have hlen:(iE w S ep (L.map (·.2)).toArray).size=L.length:=by have:=(yA w S ep (L.map (·.2)).toArray).length_eq;simpa using this
  have cF:i<(iE w S ep (L.map (·.2)).toArray).size:=by lia
  unfold aaE;refine XX (abg (ZD (name:=ZI "__next__") hT oK
   (Zj oK hT Fi ?_ (Fj _))))
  unfold aaJ.«set_iterator.__next__»;refine XX (X3 (XX (aaW hI rfl ?_)));show Yr _ _ (setEntries S >>= _) _ _ _;refine XX (abX h1 x.dat x.tok.fits ?_);refine abh (λz=>absurd z (by simp)) (λ_=>?_);show Yr _ _ (af1 S (adp (sl:Int)) (adp (i:Int)) (adp (ep:Int)) >>= _) _ _ _;rw[YS,YS,YS];refine XX (Fw x h1 hb λfo jc=>?_);rw[YK cF];dsimp only [Option.map_some];refine XX (abw hI rfl (by simp) ?_);have Fx:=YQ (aaP (·.setIfInBounds 0 (abj (fo:Int)))) hI rfl;refine XX (abw Fx rfl (by simp[aaP]) ?_);have Qc:=YQ (aaP (·.setIfInBounds 1 (abj ((i:Int)+1)))) Fx rfl;have Fy:∀ (b:Ye) (u:Obj),b≠I->s.heap.get? b=some u->((s.heap.update I (aaP (·.setIfInBounds 0 (abj (fo:Int))))).update I (aaP (·.setIfInBounds 1 (abj ((i:Int)+1))))).get? b=some u:=λb u hb e =>
   (Yl _ _ (Y1 hb)).trans ((Yl _ _ (Y1 hb)).trans e)
  refine X3 ⟨_,rfl,X3 (hQ _ _ s.toks (by rw[YK cF];rfl) ⟨Fy S o a7 h1,fo,Qc,λhf=>jc hf hi⟩ λb u hb e=>Fy b u (by simpa using hb) e)⟩
 done:=λs Q E st hQ=>by
  obtain⟨h1,sl,hI,hb⟩:=st;have hT:s.TypeIs (.ref I) "set_iterator" := ⟨_,hI,rfl⟩;have hlen:(iE w S ep (L.map (·.2)).toArray).size=L.length:=by have:=(yA w S ep (L.map (·.2)).toArray).length_eq;simpa using this
  unfold aaE;refine XX (abg (ZD (name:=ZI "__next__") hT oK
   (Zj oK hT Fi ?_ (Fj _))))
  unfold aaJ.«set_iterator.__next__»;refine XX (X3 (XX (aaW hI rfl ?_)));show Yr _ _ (setEntries S >>= _) _ _ _;refine XX (abX h1 x.dat x.tok.fits ?_);refine abh (λz=>absurd z (by simp)) (λ_=>?_);show Yr _ _ (af1 S (adp (sl:Int)) (adp (L.length:Int)) (adp (ep:Int)) >>= _) _ _ _;rw[YS,YS,YS];refine XX (Fw x h1 hb λfo jc=>?_);rw[aaA (by lia)];show Yr _ _ (aeO (.ref I) 2 .none >>= _) _ _ s;refine XX (abw hI rfl (by simp) ?_);show Yr _ _ (newExc (.type "StopIteration") [] >>= _) _ _ _;refine XX ?_;simp only[newExc,afC];refine XX (Y5 ?_ (by size_fits));refine XX (m:=acf _ _) (acJ (a:=Value.none) (by first|rfl|(simp only[acf];rfl)) ?_);refine Y5 ?_ (by size_fits);simp only[raiseNew];refine XX (wpAny_handled ?_);rw[show A.in1.handled=none from hh];refine XX (X3 (wpAny_throw ?_));refine XX (aa4 (T := "StopIteration") (b:=true) ⟨_,Ya _ rfl,rfl⟩ adF ?_);refine X3 (hQ _ s.toks λb u hb e=>(((Zs ..).extBut.push _).push _) b u (by simpa using hb) e)
 self:=λ_ s _ _ st hQ=>by obtain⟨h1,sl,hI,hb⟩:=st;have hT:s.TypeIs (.ref I) "set_iterator" := ⟨_,hI,rfl⟩;refine acx hT Fu (Zj Fu hT P6 ?_ (P7 _));show Yr _ _ (ret (.ref I)) _ _ s;exact X3 ⟨_,rfl,"set_iterator",_,hT,oK.lookup,hQ⟩
theorem Qd(x:oM w S o ep t L):adG prog w "set" S S L.length (λi v=>((iE w S ep (L.map (·.2)).toArray)[i]?).map (·.2)=some v) (λh=>h.get? S=some o) where
 type:=λ_ h=>⟨o,h,x.cls⟩
 there:=λ_ h=>⟨X4 h,X4 h⟩
 keep:=λ_ _ h hk=>hk S (.inl rfl) o h
 notList:=by decide
 notTuple:=by decide
 hint:=λ_ _ _ _ h hq=>PQ ⟨o,h,x.cls⟩ hq
 iter:=λ_ _ hh h=>⟨_,_,(λ_ _ hq=>Qa x h hq),Qb hh x (Yk (X4 h)),
  ⟨X2 _ h,0,Ya _ rfl,λ_=>x.tok.zero⟩⟩
noncomputable abbrev kj(m:Int × abY):Int × X7:=(aeP m.1,.int m.1 m.2)
def km(h:aax)(S:Ye)(M:List (Int × abY))(led:Bool):Prop :=
 ∃ o ep t L,h.get? S=some o/\o.cls = .type "set" /\ o.data = .set (L.map (·.2)).toArray ep t/\gj t L/\t.led=led/\t.plain=true/\L.map (·.2)=M.map kj
theorem Qe(prog:Y0)(w:Zw){M:List (Int × abY)}:ElemsOf (abE prog w) (M.map kj):=λe he=>by obtain⟨m,_,rfl⟩:=Yc.mp he;exact⟨⟨m.1,by simp[abE,abm],rfl⟩,rfl⟩
theorem add_int(hS:km s.heap S M led)(hlen:M.length<2)(h0:k∈M.map (·.1)->Q false s)(h1:k∉M.map (·.1)->∀ h' M',Heap.SameBut S s.heap h'->km h' S M' led->M'.Perm ((k,tt)::M)->Q true { s with heap:=h' }) :
 Yr (model prog w) A (setAddHashed S (.int k tt) (aeP k)) Q E s:=by
 obtain⟨o,ep,t,L,g1,g2,g3,tk,g4,g5,g7⟩:=hS;have Xo:L.length=M.length:=by have:=congrArg List.length g7;simpa using this
 have qV:ElemsOf (abE prog w) (L.map (·.2)).toArray.toList:=by rw[abZ,g7];exact Qe prog w
 unfold setAddHashed setAddHashedIn;refine Zz (XX (abt g1 g3 tk.fits ?_));dsimp only;rw[byScan_of (knd:=abE prog w) rfl (by rw[Yg,XY];unfold scanBound;lia) qV];simp only[if_true];unfold setAddByScan;refine XX (XX (adu ?_));refine XX (wpAny_setScan_of (knd:=abE prog w) (k:=k) (by simp[abE,abm]) g1 g3 tk.fits qV ?_);rw[abZ,g7];by_cases bI:k∈M.map (·.1)
 .obtain⟨m,hm,hmk⟩:=Yc.mp bI;cases hf:afF (λe=>(abE prog w).is k e.2) (M.map kj) with
  | none =>
   have:=aci.mp hf (kj m) (Yc.mpr ⟨m,hm,rfl⟩);rw[<- hmk] at this;simp[abE,abm] at this
  | some j =>
   dsimp only;exact X3 (X3 (h0 bI))
 .have hf:afF (λe=>(abE prog w).is k e.2) (M.map kj)=none:=by refine aci.mpr λe he=>?_;obtain⟨m,hm,rfl⟩:=Yc.mp he;simp only[abE,abm];exact beq_eq_false_iff_ne.mpr λz=>bI (Yc.mpr ⟨m,hm,z⟩)
  rw[hf];dsimp only;obtain⟨j,j0,j1⟩:=tk.free (by lia) (aeP k);obtain⟨t',p,L',p1,p2,p3,p5,p6,p7,hperm⟩:=tk.put (by lia) j1 (aeP k) (aak k tt);have Qf:layNew t (M.map kj).toArray (aeP k) (.int k tt)=((L'.map (·.2)).toArray,t',false,false):=by rw[<- g7];unfold layNew;rw[j0];dsimp only;rw[p1,p3];have:=p2.fits;unfold SetTable.orStandIn;rw[this];rfl
  rw[Qf];dsimp only;refine XX ?_;show Yr _ _ (pure ()) _ _ _;refine X3 ?_;rw[p6,g5];simp only[if_true];refine XX ?_;rw[hashByValue_scannable 8 (show (aak k tt).scannable=true from rfl)];refine X3 ?_;rw[show plainKind (aak k tt)=true from rfl];simp only[if_true];have hsz:(L'.map (·.2)).toArray.size<=Yt:=by have:=hperm.length_eq;simp at this ⊢;rw[this];exact X5 (show _<=64 by lia) (by decide)
  refine XX (wpAny_storeSet_of g1 g3 ?_ hsz);have gS:=P5 (es':=(L'.map (·.2)).toArray) (t':=t') g1 g3;have Qg:=Zs s.heap S (afv (L'.map (·.2)).toArray t');have oN:(L'.map (·.2)).Perm (((k,tt)::M).map kj):=by refine (hperm.map (·.2)).trans ?_;simp only[Ys,g7];exact .refl _
  have Qh:t'.tooFull=false:=by unfold SetTable.tooFull;rw[p7,p2.ma];simp;lia
  rw[Qh];simp only[adE,Yu,if_false];obtain⟨M',e1,e2⟩:=Ft oN;exact X3 (X3 (h1 bI _ M' Qg ⟨_,_,t',_,gS,g2,rfl,p2,p5.trans g4,p6.trans g5,e1⟩ e2))
def qW(key:Nat->Int)(i:Nat)(M:List (Int × abY)):Prop :=
 (M.map (·.1)).Nodup/\(∀ m∈M,∃ j,j<i/\m.1=key j)/\(∀ j,j<i->key j∈M.map (·.1))/\M.length<=i
theorem Qi(e:h.get? S=some (iD w)):km h S [] (mX w) :=
 ⟨_,0,_,([]:List (Nat × Int × X7)),e,rfl,rfl,⟨rfl,rfl,rfl,.inl rfl⟩,rfl,rfl,rfl⟩
theorem Qj{R:adY->Yd->Prop}{I:Ye}{fp wr:List Ye}{G:Array GenState->Array GenState->Prop}{n:Nat}{P:Nat->X7->Prop}{St:Nat->Yd->Prop}(W:WalksS prog w A.in1 I fp wr G n P St)(S:Ye)(oh:S∉fp){key:Nat->Int}{led:Bool}(Qk:∀ i v,P i v->∃ tt,v = .int (key i) tt)(hn:n<=2) :
 ∀ (k i:Nat) (s:Yd) (M:List (Int × abY)),n-i=k->i<=n->St i s->km s.heap S M led->qW key i M ->
  (∀ s' M',Moved (S::wr) G s s'->km s'.heap S M' led->qW key n M'->R (.ok (.ret .none)) s') ->
  aaS (model prog w) A (.builtin "set.update.loop" ⟨[.ref S,.ref I],[]⟩) R s:=by
 have Fz:S∉wr:=λh=>oh (W.sub _ h);have vm:∀ b∈wr,b∈S::wr:=λb hb=>YU _ hb;intro k
 induction k with
 | zero =>
  intro i s M hk hi bV hS hM hR;obtain rfl:i=n:=by lia
  refine Zb aaX ?_;rw[YV Z0 _];refine show Yr _ A.in1 (aaE (.ref I) >>= _) _ _ s from XX (W.done s _ _ bV λs' hm=>?_);exact show Yr _ A.in1 (ret Value.none) _ _ s' from X3 (hR s' M (hm.mono vm) (let ⟨o,ep,t,L,ho,rest⟩:=hS;⟨o,ep,t,L,hm.heap S _ Fz ho,rest⟩) hM)
 | succ k ih =>
  intro i s M hk hi bV hS hM hR;have aS:i<n:=by lia
  refine Zb aaX ?_;rw[YV Z0 _];refine show Yr _ A.in1 (aaE (.ref I) >>= _) _ _ s from XX (W.item i s _ _ aS bV λv s' hP Ql hm=>?_);obtain⟨tt,rfl⟩:=Qk i v hP;have ko:km s'.heap S M led:=let ⟨o,ep,t,L,ho,rest⟩:=hS;⟨o,ep,t,L,hm.heap S _ Fz ho,rest⟩;refine show Yr _ A.in1 (holding [aak (key i) tt] (setAdd S (.int (key i) tt)) >>= _) _ _ s' from XX (Zz ?_);unfold setAdd;refine Zz (XX ((abE prog w).pyHash (k:=key i) (by simp[abE,abm]) ?_));have go:∀ (h':aax) (M':List (Int × abY)),Heap.SameBut S s'.heap h'->km h' S M' led->qW key (i+1) M' ->
   Yr (model prog w) A.in1 (again (.builtin "set.update.loop" ⟨[.ref S,.ref I],[]⟩)) (λfin s'=>match fin with|.done f=>R (.ok f) s'|.again c'=>c'.quiet=true/\aaS (model prog w) A c' R s') (λe s'=>R (.error e) s') { s' with heap:=h',toks:=s'.toks+1 }:=by
   intro h' M' jm yC Qm;refine X3 ⟨ZX Z0 _,ih (i+1) _ M' (by lia) aS (W.frame _ s' _ _ Ql (abO _) λb hb o e=>?_) yC Qm λqg Qn Qo Qp Qq=>?_⟩
   .rw[jm.2 b (λh:b=S=>oh (by rw[<- h];exact hb))];exact e
   .refine hR qg Qn (Moved.trans W.gtrans ((hm.mono vm).then_heap (abO _) λb o hb e=>?_) Qo) Qp Qq;rw[jm.2 b (λh:b=S=>hb (by rw[h];exact aaB))];exact e
  refine add_int (s:={ s' with toks:=s'.toks+1 }) (M:=M) ko (by have:=hM.2.2.2;lia) (λbI=>?_) (λbI h' M' jm yC oN=>?_)
  .refine go s'.heap M (Heap.SameBut.refl S s'.heap) ko ⟨hM.1,λm hm=>?_,λj hj=>?_,by have:=hM.2.2.2;lia⟩
   .obtain⟨j,hj,e⟩:=hM.2.1 m hm;exact⟨j,by lia,e⟩
   .by_cases e:j=i
    .rw[e];exact bI
    .exact hM.2.2.1 j (by lia)
  .refine go h' M' jm yC ⟨((oN.map (·.1)).nodup_iff).mpr (Zq.mpr ⟨bI,hM.1⟩),λm hm=>?_,λj hj=>?_,by have:=oN.length_eq;have:=hM.2.2.2;simp at *;lia⟩
   .rcases Yi.mp (oN.mem_iff.mp hm) with rfl|hm
    .exact⟨i,by lia,rfl⟩
    .obtain⟨j,hj,e⟩:=hM.2.1 m hm;exact⟨j,by lia,e⟩
   .refine ((oN.map (·.1)).mem_iff).mpr ?_;by_cases e:j=i
    .rw[e];exact aaB
    .exact YU _ (hM.2.2.1 j (by lia))
theorem Qr(hh:A.handled=none)(hl:s.heap.IsList l items)(hn:items.size<=2)(hit:∀ (i:Nat) (v:X7),items[i]?=some v->∃ tt,v = .int (key i) tt)(h:∀ (h':aax) (tk:Nat) (M:List (Int × abY)),km h' s.heap.objs.size M (mX w)->qW key items.size M->(∀ b o,b<s.heap.objs.size->s.heap.get? b=some o->h'.get? b=some o)->Q (.ref s.heap.objs.size) { s with heap:=h',toks:=tk }) :
 Yr (model prog w) A (call (.type "set") [.ref l]) Q E s:=by
 obtain⟨c,tl,hmro⟩:=PySem.F.called_set.mro;have Xp:=PySem.F.called_set.made;have vm:=PySem.F.called_set.sub;refine aem (afh (show Yr _ _ (callAny (.type "set") _) _ _ _ from X3 ⟨Code.quiet_builtin _ (by decide +kernel),Zb PySem.F.entry_type_call ?_⟩));rw[Around.under_plain (weight_type_call_type "set" [.ref l] []) rfl];have h1:=PySem.F.called_set.notType;have h2:=PySem.F.called_set.canCreate;have Xq:=PySem.F.typeCall_set_1 (.ref l);repeat (any_goals (first|assumption|wp_step))
 refine aby (P4 (.ref l) (E:=E) (Q₁:=λobj s₁=>obj = .ref s.heap.objs.size/\s₁ = { s with heap:=s.heap.push (iD w) }) ⟨rfl,rfl⟩) λr s₁ hr=>?_;cases r with
 | error e=>exact hr
 | ok fl =>
  cases fl with
  | ret obj =>
   obtain⟨rfl,rfl⟩:=hr;have gS:(s.heap.push (iD w)).get? s.heap.objs.size=some (iD w):=Ya _ rfl;have hT:Shared.TypeIs { s with heap:=s.heap.push (iD w) } (.ref s.heap.objs.size) "set" := ⟨_,gS,rfl⟩;have oO:=PySem.F.called_set.init.lookup;have FA:=PySem.F.called_set.init.bind (.ref s.heap.objs.size)
   repeat (any_goals (first|assumption|wp_step))
   refine aby (ady (R:=wants (λr s₂=>r = .none/\∃ h' tk M,s₂ = { s with heap:=h',toks:=tk }/\km h' s.heap.objs.size M (mX w)/\qW key items.size M /\
    (∀ b o,b<s.heap.objs.size->s.heap.get? b=some o->h'.get? b=some o)) E) PySem.F.called_set.init.plain PySem.F.entry_set_init (check_set_init_1 hT ?_)) λr₂ s₂ yD=>?_
   .have lt:l<s.heap.objs.size:=let ⟨_,e,_⟩:=hl;X4 e;obtain⟨ol,FC,bh,nl,hdl⟩:=id hl;obtain⟨ocls,odict,odata,oslots⟩:=ol;obtain rfl:ocls = .type "list" := bh;obtain rfl:odata = .seq items nl:=hdl;have Qs:(s.heap.push (iD w)).get? l=some { cls:=.type "list",dict:=odict,data:=.seq items nl,slots:=oslots }:=X2 _ FC;have Xr:=PySem.F.sub_list_set;have Xs:=PySem.F.sub_list_frozenset;have a7:(acm "list" == acm "dict")=false:=by decide
    have oP:(s.heap.push (iD w)).IsList l items:=⟨_,Qs,rfl,nl,rfl⟩
    unfold aaJ.«set.__init__» noKeywords Builtin.Frozenset.updateFrom;generalize Qt:afK=PI;wp_walk;subst Qt;refine abn oP (XX (wpAny_runValue ?_));have Qu:A.in1.in1.in1.handled=none:=by simp[hh]
    have yE:(s.heap.push (iD w)).objs.size=s.heap.objs.size+1:=ZM _ _;have lI:l≠(s.heap.push (iD w)).objs.size:=by rw[yE];exact Yk (aaQ lt)
    have SI:s.heap.objs.size∉[(s.heap.push (iD w)).objs.size,l]:=by rw[yE];simp only[Yi,aa2,or_false,not_or];exact⟨Yk (aaZ _),Y7 lt⟩
    refine Qj ((Walks.list Qu _ l lI items).toS) s.heap.objs.size SI (key:=key) (led:=mX w) hit hn (items.size-0) 0 _ [] (by lia) (YB _)
     ⟨⟨_,Ya _ rfl,rfl,rfl⟩,(oP.push _)⟩ (Qi (X2 _ gS))
     ⟨acg,λ_ hx=>(by cases hx),λj hj=>(by lia),YB _⟩ λs' M hm ko hM=>?_
    obtain⟨h',g',d',yF,nV⟩:=s';obtain rfl:g'=s.gens:=hm.gens;obtain rfl:d'=s.drawn:=hm.drawn;obtain rfl:nV=s.os:=hm.os;show Yr _ _ _ _ _ _;refine X3 (show Yr _ _ (ret Value.none) _ _ _ from X3 ⟨rfl,h',yF,M,rfl,ko,hM,λb o hb e=>?_⟩);refine hm.heap b o ?_ (X2 _ (X2 _ e));simp only[Yi,aa2,or_false,not_or,yE];exact⟨Yk hb,Yk (aaQ hb)⟩
   .cases r₂ with
    | error e=>exact yD
    | ok Qv =>
     cases Qv with
     | ret r =>
      obtain⟨rfl,h',tk,M,rfl,ko,hM,gM⟩:=yD
      repeat (any_goals (first|assumption|wp_step))
      exact h _ _ M ko hM gM
     | _=>exact yD.elim
  | _=>exact hr.elim
end
theorem Qw(kis:List (List Int))(ns:List Int):dr kis V.non (ns.map V.int)=(dr kis 0 ns).map V.int:=by unfold dr;rw[Y8,XY];refine ZK λi hi=>?_;have hp:=(oq (n:=ns.length) (mK kis)).1;have:i<ns.length:=YF.mp (hp.mem_iff.mp hi);simp[afj,this]
theorem FD:∀ M:List (Int × abY),Vals ((M.map (·.1)).map V.int) (M.map λm=>aak m.1 m.2)
 | []=>.nil
 | m::M=>.cons ⟨m.2,rfl⟩ (FD M)
def FE(K:XW)(t:TE):TE:=λσ H Q=>t σ H λv H1=>∃ (a:Ye) (ns:List Int),v=V.ref a/\ai K H1 a (ns.map V.int)/\ns.length<=2 /\
 ∀ zs:List Int,zs.Nodup->(∀ x,x∈zs↔x∈ns)->zs.Pairwise (· <= ·)->∀ l,H1 l=none->Q (.ref l) (upd H1 l (.lst (zs.map V.int)))
section
theorem Qx(hc:X.calm=true)(he:PE X e t)(mY:Gl X "sorted")(yG:X.mg "sorted" = none)(yH:YO "sorted" = some (.builtin "sorted"))(qX:Gl X "set")(lB:X.mg "set" = none)(yI:YO "set" = some (.type "set"))(cM:Yv [e] X.env=[(false,eval e X.env)]:=by rfl)(lC:Yv [.Call (.Name "set" p2) [e] [] fN] X.env=[(false,eval (.Call (.Name "set" p2) [e] [] fN) X.env)]:=by rfl) :
 PE X (.Call (.Name "sorted" p1) [.Call (.Name "set" p2) [e] [] fN] [] pos) (FE X.K t):=by
 intro pins s σ H Q I h;refine ZA (ft I mY yG yH ?_ (by decide) (by decide));refine aar ?_ (by rw[lC];rfl) rfl;rw[lC];show Yr _ _ (spliced ((false,eval (.Call (.Name "set" p2) [e] [] fN) X.env)::ZZ pos [])) _ _ s;refine aae ?_;refine ZA (ft I qX lB yI ?_ (by decide) (by decide));refine YL ?_ (by rw[cM];rfl) rfl;rw[cM];show Yr _ _ (spliced ((false,eval e X.env)::ZZ fN [])) _ _ s;refine aae (aB (he pins s σ H _ I h) λu s1 zq=>?_);obtain⟨x,H1,I1,r1,q1⟩:=zq;obtain⟨a,ns,rfl,hS,hn,q⟩:=q1;cases r1;refine aal ?_;obtain⟨us,rv,pl,hz⟩:=I1.list hS;have hl:us.length=ns.length:=by have:=rv.length;rw[XY] at this;lia
 have hint:=intsAre_of rv;refine Qr (items:=us.toArray) (key:=λi=>ns.getD i 0) (I1.ok.hd hc) pl.isList (by simp;lia) (λi v hv=>?_) λh2 tk M Qy hM hk=>?_
 .exact IntsAre.int_at hint i v (by simpa using hv)
 refine aal ?_;obtain⟨o,ep,tb,L,g1,g2,g3,yF,g4,g5,g7⟩:=Qy;have hx:oM X.w s1.heap.objs.size o ep tb L:=⟨g2,g3,yF,g4,g5⟩
 have hsz:us.toArray.size=us.length:=by simp
 rw[hsz] at hM;obtain⟨m1,m2,m3,m4⟩:=hM;have Qz:L.length=M.length:=by have:=congrArg List.length g7;simpa using this
 have hp:((iE X.w s1.heap.objs.size ep (L.map (·.2)).toArray).toList).Perm (M.map kj):=by have:=yA X.w s1.heap.objs.size ep (L.map (·.2)).toArray;rw[abZ,g7] at this;rw[g7];exact this
 obtain⟨M',e1,e2⟩:=Ft hp;have Xt:M'.length=L.length:=e2.length_eq.trans Qz.symm;have eT:(M'.map (·.1)).Nodup:=((e2.map (·.1)).nodup_iff).mpr m1;have QA:=FD M';refine PZ (s:={ s1 with heap:=h2,toks:=tk }) (kis:=M'.map λm=>[m.1]) (vs:=M'.map λm=>aak m.1 m.2) (by simp) (by simp;lia) (λi hi=>?_) (λA' Q' E' hA hq=>?_) λl h' uB k1 k2 k3=>?_
 .have cF:i<M'.length:=by simpa using hi
  exact⟨M'[i].1,M'[i].2,by simp[cF],by simp[afj,cF]⟩
 .refine Ey (s:={ s1 with heap:=h2,toks:=tk }) (Qd hx) (hA.trans (I1.ok.hd hc)) g1 (X5 (show L.length<=64 by lia) (by decide)) λh3 xE acc b1 b2 b3=>?_;have QC:acc.toList=M'.map λm=>aak m.1 m.2:=by
   refine aap λi=>?_;rw[abC];by_cases hi:i<L.length
   .have cF:i<acc.size:=by rw[b3.1];exact hi
    have yJ:i<M'.length:=by lia
    have:=b3.2 i acc[i] (YK cF);dsimp only at this;have e3:(iE X.w s1.heap.objs.size ep (L.map (·.2)).toArray)[i]?=some (kj M'[i]):=by rw[<- abC,e1];simp[yJ]
    rw[e3] at this;rw[YK cF,<- this];simp[yJ]
   .rw[aaA (by rw[b3.1];lia)];rw[eq_comm,List.getElem?_eq_none_iff];simp only[XY];lia
  rw[QC];exact hq h3 xE b1 b2
 .refine EC (s:=s1) (ks:=(M'.map (·.1)).map V.int) (kis:=M'.map λm=>[m.1]) (us:=M'.map λm=>aak m.1 m.2) I1 QA ?_ ?_ (λb u e=>k2 b u (hk b u (X4 e) e)) k3 λl' yK=>?_
  .simp only[XY];exact X5 (show _<=64 by lia) (by decide)
  .exact X5 (abx (X4 g1)) k1
  .rw[Qw];refine q _ ((ou.nodup_iff).mpr eT) (λx=>?_) ?_ l' yK
   .rw[ou.mem_iff,(e2.map (·.1)).mem_iff];constructor
    .intro gM;obtain⟨m,hm,rfl⟩:=Yc.mp gM;obtain⟨j,hj,ej⟩:=m2 m hm;have:j<ns.length:=by lia
     rw[ej];simp[afj,this]
    .intro gM;obtain⟨j,hj,rfl⟩:=adQ gM;have:=m3 j (by lia);simpa [afj,hj] using this
   .have:=NH (kis:=M'.map λm=>[m.1]) (d:=(0:Int)) (as:=M'.map (·.1)) (f:=λx=>[x]) (by rw[Y8];rfl);refine this.imp λ{a b} fH=>?_;rw[HT.nW] at fH;by_cases e:b=a
    .lia
    .rw[if_neg e] at fH;have:=of_decide_eq_false fH;lia
def FF(r r' qB:R2)(ta tb tc td:TE):TE:=λσ H Q=>ta σ H λx H1=>tb σ H1 λy H2=>r x y H2 λz H3=>∃ k,z = .bl k /\
 (if k=true then tc σ H3 λw' H4=>r' y w' H4 λz2 H5=>∃ k2,z2 = .bl k2/\(if k2=true then td σ H5 λw2 H6=>qB w' w2 H6 Q else Q (.bl false) H5) else Q (.bl false) H3)
theorem QD(ho:a8 X (Zd op) r)(cA:a8 X (Zd gH) r')(QE:a8 X (Zd FG) qB)(ha:PE X a ta)(hb:PE X b tb)(hc:PE X c tc)(hd:PE X d td)(hm:aeR [op,gH,FG] [b,c,d]=false:=by with_unfolding_all rfl):PT X (.Compare a [op,gH,FG] [b,c,d] pos) (ue (FF r r' qB ta tb tc td)):=by
 intro pins s σ H Q I h;refine isTrue_chain (aB (ha pins s σ H _ I h) λv s1 ⟨x,H1,I1,r1,q1⟩=>afL (aB (hb pins s1 σ H1 _ I1 q1) λu s2 ⟨y,H2,I2,r2,q2⟩ =>
  aB (ho pins s2 σ H2 x y v u _ I2 r1 r2 q2) λd s3 ⟨z,H3,I3,r3,k,e,q3⟩=>?_)) hm
 subst e;cases r3;refine YR ?_;cases k with
 | false =>
  obtain⟨k',e',q'⟩:=q3;cases e';exact (if_neg (by decide)).mpr ⟨H3,I3,q'⟩
 | true =>
  refine (if_pos rfl).mpr (afL (aB (hc pins s3 σ H3 _ I3 q3) λw' s4 ⟨z',H4,I4,r4,q4⟩=>aB (cA pins s4 σ H4 y z' u w' _ I4 r2 r4 q4) λd2 s5 zq=>?_));obtain⟨z2,H5,I5,r5,k2,e2,q5⟩:=zq;subst e2;cases r5;refine YR ?_;cases k2 with
  | false =>
   obtain⟨k',e',q'⟩:=q5;cases e';exact (if_neg (by decide)).mpr ⟨H5,I5,q'⟩
  | true =>
   refine (if_pos rfl).mpr (test_last (aB (hd pins s5 σ H5 _ I5 q5) λw2 s6 ⟨z3,H6,I6,r6,q6⟩=>aB (QE pins s6 σ H6 z' z3 w' w2 _ I6 r4 r6 q6) λd' s7 zq=>?_));obtain⟨z4,H7,I7,r7,k3,e3,q7⟩:=zq;subst e3;cases r7;exact YR ⟨H7,I7,q7⟩
theorem mZ(he:PE X o ta)(F:dP X.prog X.w X.K X.mg X.base CX k f fd ps sp)(hr:bP k X.A)(hb:Binds X.K fd ps ds)(hd:Vals cC ds)(hx:Passes CX X E)(ht:eval (.Call (.Attribute o m apos) [] [] pos) X.env=(do
 let ov <- eval o X.env
 aeg apos.atName
 let (f,first) <- holding [ov] (adf ov m pl)
 afy pos f first (ZZ pos (Yv [] X.env)) (adt pos (abp [] X.env))):=by rfl) :
 PE X (.Call (.Attribute o m apos) [] [] pos) (Ec X.K m f sp cC E ta mv):=by
 intro pins s σ H Q I h;refine aaH (pl:=pl) (aB (he pins s σ H _ I h) λu s1 zq=>?_) ht;obtain⟨x,H1,I1,rx,a,C,dx,fs,ex,ea,c,hm,l,q⟩:=zq;subst ex;obtain rfl:u=YC a:=rx;refine wU I1 ea c hm l ?_;exact adK (first:=[.ref a]) I1.b6 hm.kp (qd (us:=[.ref a]) (vs:=[.ref a]) F hr hb hd hx I1 (.cons rfl .nil) q)
end
def FH(t1 t2:TE):TE:=λσ H Q=>t1 σ H Q∨t2 σ H Q
theorem yL(h1:PE X e t1)(h2:PE X e t2):PE X e (FH t1 t2):=λpins s σ H Q I h=>h.elim (h1 pins s σ H Q I) (h2 pins s σ H Q I)
noncomputable def m5:S2->List S2
 | (none,none)=>[]
 | (some l,none)=>[(none,some (l-1))]
 | (none,some h)=>[(some (h+1),none)]
 | (some l,some h)=>[(none,some (l-1)),(some (h+1),none)]
noncomputable def gk(ps:List Pa):List (List Pa):=ps.flatMap λp=>(m5 p.2.2).map λo=>[((p.1,p.2.1,o):Pa)]
noncomputable def c6(i j:Int)(s:S2):List Pa:=(Yn (j+1-i).toNat).map λk=>("at",i+(k:Nat),s)
def df(H:Hp)(v:V)(ps:List Pa):Prop:=∃ l xs,v = .ref l/\H l=some (.lst xs)/\de H xs ps
theorem df.same(h:df H v ps)(s:aj H H'):df H' v ps:=let ⟨l,xs,e,a,b⟩:=h;⟨l,xs,e,s _ _ a,b.same s⟩
def dY(H0 H:Hp)(v:V)(ps:List Pa):Prop:=∃ c xs,v = .ref c/\H0 c=none/\H c=some (.lst xs)/\de H xs ps
theorem dY.same(h:dY H0 H v ps)(s:aj H H'):dY H0 H' v ps:=let ⟨c,xs,e,n,a,b⟩:=h;⟨c,xs,e,n,s _ _ a,b.same s⟩
theorem dY.back(h:dY H1 H v ps)(s:aj H0 H1):dY H0 H v ps:=let ⟨c,xs,e,n,a,b⟩:=h;⟨c,xs,e,s.free n,a,b⟩
def gQ(H0:Hp)(l:Ye)(H:Hp)(v:V)(ps:List Pa):Prop:=∃ c xs,v = .ref c/\c≠l/\H0 c=none/\H c=some (.lst xs)/\de H xs ps
theorem gQ.same(h:gQ H0 l H v ps)(s:aj H H'):gQ H0 l H' v ps:=let ⟨c,xs,e,m,n,a,b⟩:=h;⟨c,xs,e,m,n,s _ _ a,b.same s⟩
theorem gQ.put(h:gQ H0 l H v ps)(hl:H l=some (.lst ys)):gQ H0 l (upd H l o) v ps:=let ⟨c,xs,e,m,n,a,b⟩:=h;⟨c,xs,e,m,n,by rw[aG m];exact a,b.put hl⟩
theorem gQ.FI(h:gQ H0 l H v ps):dY H0 H v ps:=let ⟨c,xs,e,_,n,a,b⟩:=h;⟨c,xs,e,n,a,b⟩
theorem QF{ps:List Pa}{i:Nat}{p:Pa}(h:ps[i]?=some p):gk (ps.take (i+1))=gk (ps.take i)++(m5 p.2.2).map λo=>[((p.1,p.2.1,o):Pa)]:=by unfold gk;rw[Zi,h,ab0];simp
theorem uW(s:S2):(m5 s).length<=2:=by obtain⟨a,b⟩:=s;cases a<;>cases b<;>simp[m5]
theorem kr(i j:Int)(s:S2):(c6 i j s).length=(j+1-i).toNat:=by unfold c6;rw[XY,Yb]
noncomputable def oQ(i j l h:Int):List (List Pa):=(Yn (j-i).toNat).flatMap λk=>(c6 (i+(k:Nat)+1) j (some h,none)).map λp=>[(("at",i+(k:Nat),none,some l):Pa),p]
noncomputable def jw(u:X7):Bool:=match u with|.none=>true|_=>false
noncomputable def ku(v:V):Bool:=decide (v = .non)
def oR(H:Hp)(xs:List V):Prop:=∀ v∈xs,v = .non ∨ ∃ a ys,v = .ref a/\H a=some (.tup ys)
section
theorem FK{x:V}{u:X7}{H:Hp}(r:RelV x u)(h:x = .non ∨ ∃ a ys,x = .ref a/\H a=some (.tup ys)):jw u=ku x:=by
 rcases h with rfl|⟨a,ys,rfl,_⟩
 .cases r;rfl
 .cases r;rfl
theorem FL:∀ {xs:List V} {us:List X7},Vals xs us->oR H xs->us.any jw=xs.any ku
 | _,_,.nil,_=>rfl
 | x::xs,u::us,.cons r t,f=>by rw[Zn,Zn,FK r (f x (.head _)),FL t λv hv=>f v (.tail _ hv)]
theorem yM:∀ {xs:List V} {us:List X7},Vals xs us->oR H xs->∀ (m:Nat) (h:m<us.length),jw us[m]=ku (xs.getD m .non)
 | _,_,.nil,_,m,h=>absurd h (ZN _)
 | x::xs,u::us,.cons r t,f,0,h=>FK r (f x (.head _))
 | x::xs,u::us,.cons r t,f,m+1,h=>yM t (λv hv=>f v (.tail _ hv)) m (ac4 h)
theorem yN(I:Inv X pins σ H s)(hu:A.units<adh):∀ {xs:List V} {us:List X7},Vals xs us->oR H xs->∀ u∈us,SeqAt.EqAt A s u .none (jw u)
 | _,_,.nil,_=>λu hu=>by cases hu
 | x::xs,u::us,.cons r t,f=>λu' yO=>by
  rcases Yi.mp yO with rfl|yO
  .rcases f x (.head _) with rfl|⟨a,ys,rfl,ha⟩
   .cases r;exact SeqAt.EqAt.same _
   .cases r;obtain⟨_,aq,r',o',k1,k2,n,k3⟩:=(show bK X.prog X.w H s.heap a (.tup ys) from I.az a _ ha)
    exact SeqAt.EqAt.tuple_none ⟨o',k1,k2,n,k3⟩ hu
  .exact yN I hu t (λv hv=>f v (.tail _ hv)) u' yO
def QG(K:XW):R2:=λx y H Q=>∃ a xs,x = .non/\y = .ref a/\ai K H a xs/\oR H xs/\Q (.bl (xs.any ku)) H
theorem FN(hu:X.A.units+1<adh):a8 X (Zd .In) (QG X.K):=by intro pins s σ H x y v u Q I rx ry h;obtain⟨a,xs,rfl,rfl,hq,hn,q⟩:=h;cases rx;cases ry;obtain⟨aq,r,pl,hz⟩:=I.list hq;refine SeqAt.in_listAt jw pl.isList (λw hw=>yN I (A:=X.A.in1) (aaC (knd:=eW X.prog X.w) hu) r hn w (by simpa using hw)) ⟨.bl _,H,I,rfl,?_⟩;rw[show aq.toArray.any jw=aq.any jw by simp,FL r hn];exact q
def QH(K:XW)(x:V)(ys:List V)(H:Hp)(Q:VK):Prop:=∃ a xs j,x = .ref a/\ys=[.non]/\ai K H a xs/\oR H xs/\j<xs.length/\xs.length<=1000/\ku (xs.getD j .non)=true/\(∀ m,m<j->ku (xs.getD m .non)=false)/\Q (.int (j:Nat)) H
theorem FO(hu:X.A.units+1<adh):CN X "list.index" (QH X.K):=by
 intro pins s σ H x xs v us Q I rx r h;obtain⟨a,xs,j,rfl,rfl,hq,hn,hj,hl,h1,h2,q⟩:=h;cases rx;obtain⟨u,rfl,ru⟩:=vals1 r;cases ru;obtain⟨aq,r,pl,hz⟩:=I.list hq;obtain⟨⟨cls,dd,data,sl⟩,ho,hc,n,hd⟩:=id pl.isList;simp only at hc hd;subst hc hd;have hlen:aq.length=xs.length:=(Vals.length r).symm;refine aep abi ⟨_,ho,rfl⟩ PySem.F.entry_list_index (PySem.F.args_list_index_2 _ _)
  (SeqAt.list_indexAt a aq.toArray n dd sl .none jw j (by simpa [hlen] using hj) (by lia) ?_ ?_) ⟨ho,λy hy=>yN I (A:=X.A.in1) (aaC (knd:=eW X.prog X.w) hu) r hn y (by simpa using hy),?_⟩
 .show jw aq[j]=true;rw[yM r hn];exact h1
 .intro m hm aS;show jw aq[m]=false;rw[yM r hn];exact h2 m aS
 .exact⟨.int j,H,I.tok _,⟨_,rfl⟩,q⟩
end
noncomputable def fO(p:P2):W2:=some (some p.1,some p.2)
theorem FP:∀ (ss:List S2) (a b:Int),∃ a' b',aZ (some a,some b) ss=(some a',some b')
 | [],a,b=>⟨a,b,rfl⟩
 | s::ss,a,b=>by
  rw[uZ];have h1:∃ x,dt (some a) s.1=some x:=by rcases s.1 with _|c<;>exact⟨_,rfl⟩
  have h2:∃ x,dv (some b) s.2=some x:=by rcases s.2 with _|c<;>exact⟨_,rfl⟩
  obtain⟨x,hx⟩:=h1;obtain⟨y,hy⟩:=h2;rw[hx,hy];exact FP ss x y
theorem QJ(h:eE (none,none) ((some a,some b)::ss)=some s):∃ p:P2,some s=fO p/\p.1<=p.2:=by
 unfold eE at h;rw[uZ] at h;obtain⟨x,y,e⟩:=FP ss a b;rw[show (dt (none,none).1 (some a,some b).1,dv (none,none).2 (some a,some b).2)=((some a,some b):S2) from rfl,e] at h;split at h
 .cases h
 .rename_i hc;cases h;exact⟨(x,y),rfl,by simpa [aW] using hc⟩
theorem FQ(hf:∀ k s,f k=some s->∃ p:P2,some s=fO p/\p.1<=p.2):∀ (ks:List Nat),(∀ k∈ks,f k≠none)->∃ pp:List P2,ks.map f=pp.map fO/\cZ pp
 | [],_=>⟨[],rfl,λ_ h=>nomatch h⟩
 | k::ks,h=>by
  obtain⟨pp,e,ho⟩:=FQ hf ks λj hj=>h j (.tail _ hj);cases hk:f k with
  | none=>exact absurd hk (h k (.head _))
  | some s =>
   obtain⟨p,e1,e2⟩:=hf k s hk;refine⟨p::pp,by rw[Ys,Ys,e,hk,e1],λq hq=>?_⟩;rcases Yi.mp hq with rfl|hq
   .exact e2
   .exact ho q hq
theorem all_some:∀ (ws:List W2),(∀ w∈ws,w≠none)->∃ gs:List S2,ws=gs.map some
 | [],_=>⟨[],rfl⟩
 | w::ws,h=>by
  obtain⟨gs,e⟩:=all_some ws λj hj=>h j (.tail _ hj);cases w with
  | none=>exact absurd rfl (h none (.head _))
  | some s=>exact⟨s::gs,by rw[e];rfl⟩
theorem yP:∀ {ys:List V} {ws:List W2},aw (dW H) ys ws->oR H ys/\(ys.any ku=ws.any aaR)/\∀ m,ku (ys.getD m .non)=(ws.getD m none).isNone
 | [],[],_=>⟨(λ_ h=>nomatch h),rfl,λ_=>rfl⟩
 | y::ys,w::ws,h=>by
  obtain⟨h1,h2⟩:=h;obtain⟨a,b,c⟩:=yP h2;have key:(y = .non ∨ ∃ a ys,y = .ref a/\H a=some (.tup ys))/\ku y=w.isNone:=by
   cases w with
   | none =>
    obtain rfl:y = .non:=h1;exact⟨.inl rfl,rfl⟩
   | some s =>
    obtain⟨p,rfl,hp⟩:=h1;exact⟨.inr ⟨p,_,rfl,hp⟩,rfl⟩
  refine⟨λv hv=>?_,by rw[Zn,Zn,b,key.2],λm=>?_⟩
  .rcases Yi.mp hv with rfl|hv
   .exact key.1
   .exact a v hv
  .cases m with
   | zero=>exact key.2
   | succ m=>exact c m
 | [],_::_,h=>h.elim
 | _::_,[],h=>h.elim
theorem yQ:∀ {xs:List α},xs.any p=true->∃ j,j<xs.length/\p (xs.getD j d)=true/\∀ m,m<j->p (xs.getD m d)=false
 | [],h=>by cases h
 | x::xs,h=>by
  cases hx:p x with
  | true=>exact⟨0,Nat.zero_lt_succ _,hx,λm hm=>absurd hm (ZN _)⟩
  | false =>
   rw[Zn,hx,afB] at h;obtain⟨j,h1,h2,h3⟩:=yQ (d:=d) h;refine⟨j+1,Nat.succ_lt_succ h1,h2,λm hm=>?_⟩;cases m with
   | zero=>exact hx
   | succ m=>exact h3 m (ac4 hm)
theorem FR{ws:List W2}(h:ws.any aaR=false):∀ w∈ws,w≠none:=λw hw e=>by have:=aeh.mp h w hw;rw[e] at this;exact this rfl
theorem FT:∀ {ys:List V} {pp:List P2},aw (dW H) ys (pp.map fO)->dU H ys pp
 | [],[],_=>trivial
 | _::_,_::_,h=>⟨h.1,FT h.2⟩
 | [],_::_,h=>h.elim
 | _::_,[],h=>h.elim
theorem j8.reach(T:j8 ps ms tp):∀ (n t:Nat) {v k:Int},t+n<=ps.length ->
 (tp t=some (v,k)->∃ v' k',tp (t+n)=some (v',k')/\v'<=v+(pre (·.2) ps (t+n)-pre (·.2) ps t)) /\
 (tp (t+n)=some (v,k)->∃ v' k',tp t=some (v',k')/\v'<=v+(pre (·.1) ps t-pre (·.1) ps (t+n)))
 | 0,t,v,k,_=>⟨λh=>⟨v,k,h,by simp⟩,λh=>⟨v,k,h,by simp⟩⟩
 | n+1,t,v,k,hn=>by
  refine⟨λh=>?_,λh=>?_⟩
  .obtain⟨v1,k1,e1,h1⟩:=(T.reach n t (by lia)).1 h;obtain⟨v2,k2,e2,h2⟩:=T.fwd (t+n) v1 k1 (by lia) e1;refine⟨v2,k2,e2,?_⟩;rw[show t+(n+1)=(t+n)+1 by lia,fI _ ps (by lia)];lia
  .obtain⟨v1,k1,e1,h1⟩:=T.bwd (t+n) v k (by lia) h;obtain⟨v2,k2,e2,h2⟩:=(T.reach n t (by lia)).2 e1;refine⟨v2,k2,e2,?_⟩;rw[show t+(n+1)=(t+n)+1 by lia,fI _ ps (by lia)];lia
theorem QK(T:j8 ps ms tp)(hm:∀ m∈ms,m.1<=ps.length)(hn:∀ m∈ns,m.1<=ps.length)(h0:qM ns tp)(ha:a∈ms)(hb:b∈ns):¬ clash ps a b:=by
 rintro ⟨h,l,e1,e2,aS⟩;obtain⟨v,k,e3,h3⟩:=T.top a ha h e1;have qp:=hm a ha;have b8:=hn b hb;have key:∃ v' k',tp b.1=some (v',k')/\v'<=v+bA ps a.1 b.1:=by
  unfold bA;by_cases hle:a.1<=b.1
  .rw[if_pos hle];obtain⟨n,kQ⟩:∃ n,b.1=a.1+n:=⟨b.1-a.1,by lia⟩
   rw[kQ];exact (T.reach n a.1 (by lia)).1 e3
  .rw[if_neg hle];obtain⟨n,kQ⟩:∃ n,a.1=b.1+n:=⟨a.1-b.1,by lia⟩
   rw[kQ] at e3 ⊢;exact (T.reach n b.1 (by lia)).2 e3
 obtain⟨v',k',e4,h4⟩:=key;have:=h0 b hb l v' k' e2 e4;lia
theorem yS:m∈lz tb i ↔ ∃ r∈tb,r.1.1=i/\m=(r.1.2.toNat,r.2):=by
 unfold lz;simp only[Yc,Yy,decide_eq_true_eq];constructor
 .rintro ⟨r,⟨h1,h2⟩,rfl⟩;exact⟨r,qS.mem_iff.mp h1,h2,rfl⟩
 .rintro ⟨r,h1,h2,rfl⟩;exact⟨r,⟨qS.mem_iff.mpr h1,h2⟩,rfl⟩
noncomputable def qY(e:Nat)(tb:Tb):List (Int × List Mk):=(Yn e).map λ(i:Nat)=>((i:Int),lz tb (i:Int))
theorem QL(hp:cZ ps)(ht:t<ps.length):bA ps i (t+1)<=bA ps i t+(aC ps t).2:=by
 have h:=hp _ (mJ ht);have e1:=fI (·.1) ps ht;have e2:=fI (·.2) ps ht;unfold bA;split<;>split<;>first|lia|(have z:i=t+1:=(by lia);subst z;lia)
theorem QM(hp:cZ ps)(ht:t<ps.length):bA ps i t<=bA ps i (t+1)-(aC ps t).1:=by
 have h:=hp _ (mJ ht);have e1:=fI (·.1) ps ht;have e2:=fI (·.2) ps ht;unfold bA;split<;>split<;>first|lia|(have z:i=t+1:=(by lia);subst z;lia)
theorem QN(ps:List P2)(i:Nat):bA ps i i<=0:=by unfold bA;split<;>lia
theorem FU(hp:cZ ps)(ms:List Mk):∀ n,n<=ms.length->∃ tp,j8 ps (ms.take n) tp
 | 0,_=>⟨λ_=>none,⟨λ_ _ _ _ e=>(nomatch e),λ_ h=>(nomatch h),λ_ _ _ _ e=>(nomatch e),λ_ _ _ _ e=>(nomatch e)⟩⟩
 | n+1,hn=>by
  obtain⟨tp,T⟩:=FU hp ms n (by lia);have hm:ms[n]?=some ms[n]:=X0 (by lia);generalize ms[n]=m at hm;have et:ms.take (n+1)=ms.take n++[m]:=by rw[Zi,hm];rfl
  have tl:(ms.take n).length=n:=by rw[aa1];lia
  cases hi:m.2.2 with
  | none =>
   refine⟨tp,⟨λt v k ht e=>?_,λa ha h e=>?_,T.fwd,T.bwd⟩⟩
   .obtain⟨i,a,h,h1,h2,h3⟩:=T.val t v k ht e;have:=(X6.mp h2).1;exact⟨i,a,h,h1,by rw[et,YX this];exact h2,h3⟩
   .rw[et] at ha;rcases Yz.mp ha with z|z
    .exact T.top a z h e
    .rw[YG.mp z,hi] at e;cases e
  | some h0 =>
   have one:∀ t v k,(match tp t with|some (v,k)=>if h0+bA ps m.1 t<v then some (h0+bA ps m.1 t,(n:Int)) else some (v,k)|none=>some (h0+bA ps m.1 t,(n:Int)))=some (v,k) ->
    v<=h0+bA ps m.1 t/\(∀ v' k',tp t=some (v',k')->v<=v')/\((v=h0+bA ps m.1 t/\k=(n:Int))∨tp t=some (v,k)):=by
    intro t v k e;cases h1:tp t with
    | none =>
     rw[h1] at e;cases e;exact⟨Y6 _,λ_ _ z=>(nomatch z),.inl ⟨rfl,rfl⟩⟩
    | some q =>
     obtain⟨v1,k1⟩:=q;rw[h1] at e;dsimp only at e;split at e
     .cases e;refine⟨Y6 _,λv' k' z=>?_,.inl ⟨rfl,rfl⟩⟩;cases z;lia
     .cases e;refine⟨by lia,λv' k' z=>?_,.inr rfl⟩;cases z;exact Y6 _
   have ex:∀ t,∃ v k,(match tp t with|some (v,k)=>if h0+bA ps m.1 t<v then some (h0+bA ps m.1 t,(n:Int)) else some (v,k)|none=>some (h0+bA ps m.1 t,(n:Int)))=some (v,k):=λt=>by
    cases h1:tp t with
    | none=>exact⟨_,_,rfl⟩
    | some q =>
     obtain⟨v1,k1⟩:=q;dsimp only;split<;>exact⟨_,_,rfl⟩
   refine⟨λt=>match tp t with|some (v,k)=>if h0+bA ps m.1 t<v then some (h0+bA ps m.1 t,(n:Int)) else some (v,k)|none=>some (h0+bA ps m.1 t,(n:Int)),⟨λt v k ht e=>?_,λa ha h e=>?_,λt v k ht e=>?_,λt v k ht e=>?_⟩⟩
   .obtain⟨_,_,⟨rfl,rfl⟩|e1⟩:=one t v k e
    .exact⟨n,m,h0,rfl,by rw[et,Za (by lia),tl,adq];rfl,hi,Y6 _⟩
    .obtain⟨i,a,h,h1,h2,h3⟩:=T.val t v k ht e1;have:=(X6.mp h2).1;exact⟨i,a,h,h1,by rw[et,YX this];exact h2,h3⟩
   .obtain⟨v,k,e1⟩:=ex a.1;obtain⟨o1,o2,_⟩:=one _ _ _ e1;refine⟨v,k,e1,?_⟩;rw[et] at ha;rcases Yz.mp ha with z|z
    .obtain⟨v',k',e2,h2⟩:=T.top a z h e;have:=o2 v' k' e2;lia
    .rw[YG.mp z] at e o1;rw[hi] at e;cases e;have:=QN ps m.1;lia
   .obtain⟨v',k',e1⟩:=ex (t+1);obtain⟨o1,o2,_⟩:=one _ _ _ e1;refine⟨v',k',e1,?_⟩;obtain⟨_,_,⟨rfl,rfl⟩|e3⟩:=one t v k e
    .have:=QL hp (i:=m.1) ht;lia
    .obtain⟨v2,k2,e4,h4⟩:=T.fwd t v k ht e3;have:=o2 _ _ e4;lia
   .obtain⟨v',k',e1⟩:=ex t;obtain⟨o1,o2,_⟩:=one _ _ _ e1;refine⟨v',k',e1,?_⟩;obtain⟨_,_,⟨rfl,rfl⟩|e3⟩:=one (t+1) v k e
    .have:=QM hp (i:=m.1) ht;lia
    .obtain⟨v2,k2,e4,h4⟩:=T.bwd t v k ht e3;have:=o2 _ _ e4;lia
theorem QO(hp:cZ ps)(hm:∀ m∈ms,m.1<=ps.length)(hc:∀ a∈ms,∀ b∈ms,¬ clash ps a b):∃ c,eJ ps c/\meets ms c:=by
 obtain⟨tp,T⟩:=FU hp ms ms.length (X9 _);rw[Zr] at T;refine OO hp hm T λm cH l v k e1 e2=>?_;rcases Int.lt_or_le v l with h|h
 .obtain⟨i,a,_,h2,h3⟩:=T.clash (hm m cH) e2 e1 h;exact absurd h3 (hc a (Yo h2) m cH)
 .exact h
abbrev Cl:=(En × Nat) × (En × Nat)
noncomputable def gn(e:Int)(c:Cl):Bool:=decide (c.1.1=some e) || decide (c.2.1=some e)
noncomputable def wo(e:Int)(cs:List Cl):List Cl:=cs.filter λc=>!gn e c
def fZ:Nat->List Cl->Prop
 | 0,_=>True
 | _+1,[]=>False
 | n+1,c::cs=>∀ e,gn e c=true->fZ n (wo e (c::cs))
def qZ(es:List Int)(cs:List Cl):Prop:=∀ c∈cs,∃ e∈es,gn e c=true
theorem QP(h:qZ es (wo e cs)):qZ (e::es) cs:=λc hc=>by
 cases hb:gn e c with
 | true=>exact⟨e,.head _,hb⟩
 | false =>
  obtain⟨x,hx,h1⟩:=h c (Yy.mpr ⟨hc,by rw[hb];rfl⟩);exact⟨x,.tail _ hx,h1⟩
inductive Pp where
 | nil:Pp
 | full:Pp
 | cls:Cl->Pp->Pp->Pp
noncomputable def lD:Nat->List Cl->Pp
 | 0,_=>.full
 | _+1,[]=>.full
 | n+1,c::cs=>.cls c (match c.1.1 with|none=>.nil|some e=>lD n (wo e (c::cs))) (if c.1.1=c.2.1 then .nil else match c.2.1 with|none=>.nil|some e=>lD n (wo e (c::cs)))
def iF(gs:List S2)(tb:Tb)(as:List Int)(s:En × Nat)(m:Mk):Prop:=m.1=s.2/\match s.1 with|none=>gs[s.2]?=some m.2|some e=>e∉as/\((e,(s.2:Int)),m.2)∈tb
def Val(ps:List P2)(gs:List S2)(tb:Tb)(mo:Int):Pp->List Int->Prop
 | .nil,_=>False
 | .full,as=>mo<as.length
 | .cls c a b,as=>(∃ m n,iF gs tb as c.1 m/\iF gs tb as c.2 n/\clash ps m n)/\(match c.1.1 with|none=>a = .nil|some e=>Val ps gs tb mo a (as++[e]))/\(match c.2.1 with|none=>b = .nil|some e=>if c.1.1=some e then b = .nil else Val ps gs tb mo b (as++[e]))
theorem m6:gn e c=true↔c.1.1=some e∨c.2.1=some e:=by unfold gn;rw[abS,decide_eq_true_eq,decide_eq_true_eq]
theorem FV:∀ (n:Nat) (cs:List Cl) (as:List Int),fZ n cs->(as.length:Int)+n=mo+1->(∀ c∈cs,∃ m n,iF gs tb as c.1 m/\iF gs tb as c.2 n/\clash ps m n)->Val ps gs tb mo (lD n cs) as
 | 0,_,as,_,h,_=>by show mo<as.length;lia
 | n+1,[],_,h,_,_=>h.elim
 | n+1,c::cs,as,h,hl,hs=>by
  have sub:∀ e,gn e c=true->Val ps gs tb mo (lD n (wo e (c::cs))) (as++[e]):=λe he=>by
   refine FV n _ _ (h e he) (by rw[Yh,Yx];lia) λc' jL=>?_;obtain⟨h1,h2⟩:=Yy.mp jL;obtain⟨m,k,a1,a2,a3⟩:=hs c' h1;have h3:gn e c'=false:=by cases hh:gn e c' with|false=>rfl|true=>rw[hh] at h2;cases h2
   have h4:∀ x,c'.1.1=some x∨c'.2.1=some x->x≠e:=λx hx z=>by subst z;rw[m6.mpr hx] at h3;cases h3
   refine⟨m,k,⟨a1.1,?_⟩,⟨a2.1,?_⟩,a3⟩
   .have:=a1.2;cases hx:c'.1.1 with
    | none=>rw[hx] at this;exact this
    | some x =>
     rw[hx] at this;refine⟨λz=>?_,this.2⟩;rcases Yz.mp z with z|z
     .exact this.1 z
     .exact h4 x (.inl hx) (YG.mp z)
   .have:=a2.2;cases hx:c'.2.1 with
    | none=>rw[hx] at this;exact this
    | some x =>
     rw[hx] at this;refine⟨λz=>?_,this.2⟩;rcases Yz.mp z with z|z
     .exact this.1 z
     .exact h4 x (.inr hx) (YG.mp z)
  refine⟨hs c (.head _),?_,?_⟩
  .cases hx:c.1.1 with
   | none=>rfl
   | some e=>exact sub e (m6.mpr (.inl hx))
  .cases hx:c.2.1 with
   | none=>dsimp only;split<;>rfl
   | some e =>
    dsimp only;by_cases he:c.1.1=some e
    .rw[if_pos he,if_pos he]
    .rw[if_neg he,if_neg he];exact sub e (m6.mpr (.inr hx))
abbrev Gp:=En × List Mk
def vo(ps:List P2)(gs:List Gp)(cs:List Cl):Prop:=∀ c∈cs,∃ g∈gs,∃ h∈gs,∃ m∈g.2,∃ n∈h.2,c=((g.1,m.1),(h.1,n.1))/\clash ps m n
def jx(ps:List P2)(g h:Gp)(cs:List Cl):Prop:=∀ m∈g.2,∀ n∈h.2,clash ps m n->∃ c∈cs,c.1.1=g.1/\c.2.1=h.1
theorem jx.more(x:jx ps g h cs):jx ps g h (cs++ds):=λm hm n hn hc=>let ⟨c,h1,h2⟩:=x m hm n hn hc;⟨c,Zc _ h1,h2⟩
noncomputable def jy(gs:List Mk)(e:Nat)(tb:Tb):List Gp:=(none,gs)::(qY e tb).map λr=>(some r.1,r.2)
theorem q8:m∈cn tb es ↔ ∃ r∈tb,r.1.1∉es/\m=(r.1.2.toNat,r.2):=by
 unfold cn;constructor
 .intro h;obtain⟨r,hr,rfl⟩:=Yc.mp h;obtain⟨h1,h2⟩:=Yy.mp hr;exact⟨r,qK h1,by simpa using h2,rfl⟩
 .rintro ⟨r,hr,h1,rfl⟩;exact Yc.mpr ⟨r,Yy.mpr ⟨ou.mem_iff.mpr hr,by simpa using h1⟩,rfl⟩
theorem FW(az:bX e t tb)(h:m∈gm++cn tb es):∃ g∈jy gm e.toNat tb,m∈g.2/\∀ x,g.1=some x->x∉es:=by
 rcases Yz.mp h with z|z
 .exact⟨_,.head _,z,λx hx=>nomatch hx⟩
 .obtain⟨r,hr,h1,rfl⟩:=q8.mp z;have ho:=az.2 r hr;unfold lq at ho;refine⟨(some r.1.1,lz tb r.1.1),.tail _ (Yc.mpr ⟨(r.1.1,lz tb r.1.1),Yc.mpr ⟨r.1.1.toNat,YF.mpr (by lia),by rw[ZL ho.1.1]⟩,rfl⟩),yS.mpr ⟨r,hr,rfl,rfl⟩,λx hx=>?_⟩;cases hx;exact h1
theorem QQ(az:bX e t tb)(hp:cZ ps)(hm:∀ m∈gm++cn tb es,m.1<=ps.length)(hc:qZ es cs)(hx:∀ g∈jy gm e.toNat tb,∀ h∈jy gm e.toNat tb,jx ps g h cs):∃ c,eJ ps c/\meets (gm++cn tb es) c :=
 QO hp hm λa ha b hb fH=>by
  obtain⟨g,h1,h2,h3⟩:=FW az ha;obtain⟨h,k1,k2,k3⟩:=FW az hb;obtain⟨c,c1,c2,c3⟩:=hx g h1 h k1 a h2 b k2 fH;obtain⟨x,x1,x2⟩:=hc c c1;rcases m6.mp x2 with z|z
  .exact h3 x (c2.symm.trans z) x1
  .exact k3 x (c3.symm.trans z) x1
theorem snd_mk(az:bX e t tb)(hg:∀ m∈gm,gs[m.1]?=some m.2)(h:vo ps (jy gm e.toNat tb) cs):∀ c∈cs,∃ m n,iF gs tb [] c.1 m/\iF gs tb [] c.2 n/\clash ps m n:=λc hc=>by
 obtain⟨g,h1,k,h2,m,h3,n,h4,rfl,h5⟩:=h c hc;have one:∀ g∈jy gm e.toNat tb,∀ m∈g.2,iF gs tb [] (g.1,m.1) m:=λg mY m hm=>by
  rcases Yi.mp mY with rfl|z
  .exact⟨rfl,hg m hm⟩
  .obtain⟨q,hq,rfl⟩:=Yc.mp z;obtain⟨i,_,rfl⟩:=Yc.mp hq;obtain⟨r,hr,e1,rfl⟩:=yS.mp hm;have ho:=az.2 r hr;unfold lq at ho;refine⟨rfl,aa2,?_⟩;show (((i:Int),((r.1.2.toNat:Nat):Int)),r.2)∈tb;rw[ZL ho.2.1,<- e1];exact hr
 exact⟨m,n,one g h1 m h3,one k h2 n h4,h5⟩
section
end
abbrev jz(h:aax)(e it:Ye)(i:Int)(old:X7)(a:Ye)(f:Bool):Prop :=
 h.get? e=some { cls:=.type "enumerate",dict:=none,data:=.fields #[abj a,.bool f,.ref it,abj i,.none,old],slots:=#[] }
section
theorem QS{e it l a:Ye}{f:Bool}{oa:Obj}{i:Nat}{items:Array X7}{x old:X7}{Q:Option X7->Yd->Prop}
 (he:jz s.heap e it i old a f) (ha:s.heap.get? a=some oa) (QT:a≠e) (QU:a≠it) (hit:s.heap.IsListIter it l i) (hl:s.heap.IsList l items) (hx:items[i]?=some x) (a7:e≠it)
 (hQ:∀ h',jz h' e it ((i:Int)+1) old a true->h'.IsListIter it l (i+1) ->
   h'.get? s.heap.objs.size=some { cls:=.type "tuple",data:=.seq #[.int i s.toks,x] }->h'.objs.size=s.heap.objs.size+1 ->
   (∀ b o,b≠e->b≠it->s.heap.get? b=some o->h'.get? b=some o)->Q (some (.ref s.heap.objs.size)) { s with heap:=h',toks:=s.toks+1 }) :
 Yr (model prog w) A (aaE (.ref e)) Q E s:=by
 have hT:s.TypeIs (.ref e) "enumerate" := ⟨_,he,rfl⟩;obtain⟨hp,g,d,tk,os⟩:=s;unfold aaE;refine XX (abg (ZD (name:=ZI "__next__") hT Z9
  (Zj Z9 hT abK ?_ (abG _))))
 show Yr _ _ (field (.ref e) 2 >>= _) _ _ _;refine XX (ab1 he rfl (x:=.ref it) rfl ?_);refine XX (wpAny_nextOf_list_item hit hl hx λh₁ FX oT=>?_);replace oT:Heap.SameBut it hp h₁:=oT;have vq:jz h₁ e it i old a f:=(oT.2 e a7).trans he;show Yr _ _ (field (.ref e) 3 >>= _) _ _ ⟨h₁,g,d,tk,os⟩;refine XX (ab1 vq rfl (x:=abj i) rfl ?_);show Yr _ _ (field (.ref e) 4 >>= _) _ _ ⟨h₁,g,d,tk,os⟩;refine XX (ab1 vq rfl (x:=.none) rfl ?_);show Yr _ _ (mkInt i >>= _) _ _ ⟨h₁,g,d,tk,os⟩;refine XX (wpAny_mkInt ?_);show Yr _ _ (aeO (.ref e) 3 (abj ((i:Int)+1)) >>= _) _ _ ⟨h₁,g,d,tk+1,os⟩;refine XX (aca vq (by simp) λh₂ vt oU=>?_);replace oU:Heap.SameBut e h₁ h₂:=oU;replace vt:jz h₂ e it ((i:Int)+1) old a f:=vt;show Yr _ _ (aeO (.ref e) 4 .none >>= _) _ _ ⟨h₂,g,d,tk+1,os⟩;refine XX (aca vt (by simp) λh₃ vw oV=>?_);replace oV:Heap.SameBut e h₂ h₃:=oV;replace vw:jz h₃ e it ((i:Int)+1) old a f:=vw;show Yr _ _ (afC [.int i tk,x] >>= _) _ _ ⟨h₃,g,d,tk+1,os⟩;refine XX (wpAny_newTuple ?_);have rf:jz (h₃.push { cls:=.type "tuple",data:=.seq #[.int i tk,x] }) e it ((i:Int)+1) old a f:=X2 _ vw;generalize rg:h₃.push { cls:=.type "tuple",data:=.seq #[.int i tk,x] }=h₄ at rf;have hsz:h₃.objs.size=hp.objs.size:=by rw[oV.1,oU.1,oT.1]
 have qV:e<hp.objs.size:=X4 he;have QV:h₄.get? hp.objs.size=some { cls:=.type "tuple",data:=.seq #[.int i tk,x] }:=by rw[<- rg,<- hsz];exact Ya _ rfl
 have QW:h₄.objs.size=hp.objs.size+1:=by rw[<- rg,ZM,hsz]
 have FY:∀ b o,b≠e->b≠it->hp.get? b=some o->h₄.get? b=some o:=λb o iU FA hb=>by rw[<- rg];exact X2 _ (oV.extBut b o iU (oU.extBut b o iU (oT.extBut b o FA hb)))
 have QX:h₄.IsListIter it l (i+1):=by rw[<- rg];obtain⟨o,ho,r⟩:=(FX.extBut oU.extBut (Y1 a7)).extBut oV.extBut (Y1 a7);exact⟨o,X2 _ ho,r⟩
 show Yr _ _ (aa8 (.ref e) >>= _) _ _ ⟨h₄,g,d,tk+1,os⟩;rw[hsz];clear rg vw oV vt oU vq oT FX hsz h₃ h₂ h₁;have QY:h₄.get? a=some oa:=FY a oa QT QU ha;refine XX ?_;unfold aa8;refine XX (ab1 rf rfl (x:=abj a) rfl ?_);show Yr _ _ (loadIfAlive ((a:Int).toNat) >>= _) _ _ _;rw[YS];refine XX (PySem.W.kdx_alive QY ?_);simp only[Option.isNone_some,Yu,if_false];refine XX (ab1 rf rfl (x:=.bool f) rfl ?_);have fin:∀ h₅:aax,jz h₅ e it ((i:Int)+1) old a true->Heap.SameBut e h₄ h₅->Q (some (.ref hp.objs.size)) ⟨h₅,g,d,tk+1,os⟩:=λh₅ rh lE =>
  hQ h₅ rh (QX.extBut lE.extBut (Y1 a7)) (lE.extBut _ _ (Y7 qV) QV) (by show h₅.objs.size=hp.objs.size+1;rw[lE.1,QW]) λb o FZ mF q=>lE.extBut b o FZ (FY b o FZ mF q)
 cases f with
 | true =>
  rw[if_neg (show ¬ ((ZE true != ZE true)=true) from Yq)];refine X3 ?_;simp only[Yu,if_false];exact X3 ⟨_,rfl,X3 (fin h₄ rf (Heap.SameBut.refl _ _))⟩
 | false =>
  rw[if_pos (show (ZE false != ZE true)=true from rfl)];refine XX (aca rf (by simp) λh₅ rh lE=>?_);replace lE:Heap.SameBut e h₄ h₅:=lE;replace rh:jz h₅ e it ((i:Int)+1) old a true:=rh;refine X3 ?_;simp only[Yu,if_false];exact X3 ⟨_,rfl,X3 (fin h₅ rh lE)⟩
theorem QZ{e it l a:Ye}{f:Bool}{i:Nat}{items:Array X7}{old:X7}{Q:Option X7->Yd->Prop}(hh:A.handled=none)
 (he:jz s.heap e it i old a f) (hit:s.heap.IsListIter it l i) (hl:s.heap.IsList l items) (hx:items[i]?=none)
 (hQ:∀ h',afc it s.heap h'->Q none { s with heap:=h' }):Yr (model prog w) A (aaE (.ref e)) Q E s:=by
 have hT:s.TypeIs (.ref e) "enumerate" := ⟨_,he,rfl⟩;unfold aaE;refine XX (abg (ZD (name:=ZI "__next__") hT Z9
  (Zj Z9 hT abK ?_ (abG _))))
 show Yr _ _ (field (.ref e) 2 >>= _) _ _ _;refine XX (ab1 he rfl (x:=.ref it) rfl ?_);refine XX (wpAny_nextOf_list_end hh hit hl hx λh' x oF dS=>?_);obtain⟨o,ho,hc⟩:=dS;refine XX (aa4 (T := "StopIteration") (b:=true) ⟨o,ho,hc⟩ adF ?_);exact X3 (hQ _ oF)
def m8(h:aax)(e it S:Ye)(i:Nat):Prop :=
 (∃ old,IsEnum h e it i old) ∨ ∃ old a f oa,jz h e it i old a f/\h.get? a=some oa/\a≠e/\a≠it/\a≠S
theorem m8.keep(x:m8 h e it S i)(hk:∀ b o,b≠S->h.get? b=some o->h'.get? b=some o)(hI:e≠S):m8 h' e it S i:=by
 rcases x with ⟨old,q⟩|⟨old,a,f,oa,q,ha,h1,h2,h3⟩
 .exact .inl ⟨old,hk _ _ hI q⟩
 .exact .inr ⟨old,a,f,oa,hk _ _ hI q,hk _ _ h3 ha,h1,h2,h3⟩
theorem Q3(st:m8 s.heap e it S i)(hS:S<s.heap.objs.size)(hit:s.heap.IsListIter it l i)(hl:s.heap.IsList l items)(hx:items[i]?=some x)(a7:e≠it)(hQ:∀ h',m8 h' e it S (i+1)->h'.IsListIter it l (i+1) ->
 h'.get? s.heap.objs.size=some { cls:=.type "tuple",data:=.seq #[.int i s.toks,x] }->h'.objs.size=s.heap.objs.size+1 ->
 (∀ b o,b≠e->b≠it->s.heap.get? b=some o->h'.get? b=some o)->Q (some (.ref s.heap.objs.size)) { s with heap:=h',toks:=s.toks+1 }) :
 Yr (model prog w) A (aaE (.ref e)) Q E s:=by
 have ce:((i:Int)+1)=((i+1:Nat):Int):=by lia
 have hi:it<s.heap.objs.size:=let ⟨_,q,_⟩:=hit;X4 q;rcases st with ⟨old,he⟩|⟨old,a,f,oa,he,ha,h1,h2,h3⟩
 .exact ac0 he hit hl hx a7 λh' q1 q2 q3 q4 q5=>hQ h' (.inr ⟨x,_,false,_,by rw[<- ce];exact q1,q3,Y7 (X4 he),Y7 hi,Y7 hS⟩) q2 q3 q4 q5
 .exact QS he ha h1 h2 hit hl hx a7 λh' q1 q2 q3 q4 q5=>hQ h' (.inr ⟨old,a,true,oa,by rw[<- ce];exact q1,q5 a oa h1 h2 ha,h1,h2,h3⟩) q2 q3 q4 q5
theorem Q4(hh:A.handled=none)(st:m8 s.heap e it S i)(hit:s.heap.IsListIter it l i)(hl:s.heap.IsList l items)(hx:items[i]?=none)(hQ:∀ h',afc it s.heap h'->Q none { s with heap:=h' }):Yr (model prog w) A (aaE (.ref e)) Q E s:=by
 rcases st with ⟨old,he⟩|⟨old,a,f,oa,he,_⟩
 .exact adk hh he hit hl hx hQ
 .exact QZ hh he hit hl hx hQ
end
structure kx(items:Array X7)(lo:Ye)(h:aax)(as:List Ye):Prop where
 rise:as.Pairwise (· < ·)
 above:∀ a∈as,lo<=a
 pairs:∀ (j:Nat) (a:Ye),as[j]?=some a->∃ t x,items[j]?=some x/\h.get? a=some { cls:=.type "tuple",data:=.seq #[.int j t,x] }
theorem kx.there{items:Array X7}{lo:Ye}{h:aax}{as:List Ye}(g:kx items lo h as){a:Ye}(ha:a∈as):a<h.objs.size:=by obtain⟨j,hj⟩:=Zh.mp ha;obtain⟨_,_,_,e⟩:=g.pairs j a hj;exact X4 e
theorem kx.keep{items:Array X7}{lo:Ye}{h h':aax}{as:List Ye}(g:kx items lo h as)(k:∀ b o,lo<=b->h.get? b=some o->h'.get? b=some o):kx items lo h' as :=
 ⟨g.rise,g.above,λj a hj=>let ⟨t,x,e1,e2⟩:=g.pairs j a hj;⟨t,x,e1,k a _ (g.above a (Yo hj)) e2⟩⟩
section
variable{prog:Y0}{w:Zw}{A:ZP}{s:Yd}{R:adY->Yd->Prop}{items:Array X7}
theorem Q5{S e it l lo:Ye}(hh:A.handled=none)(a7:e≠it)(oW:S≠e)(oX:S≠it)(vx:l≠S)(hle:l≠e)(oO:l≠it)(F1:S<lo)(Q6:e<lo)(F2:it<lo)(hn:items.size<=Yt)(res:X7){h₁:aax}
 (hR:∀ h' tk acc c as,(∀ b o,b≠S->b≠e->b≠it->h₁.get? b=some o->h'.get? b=some o)->h'.get? S=some { cls:=.type "list",dict:=none,data:=.seq acc c,slots:=#[] }->as.length=items.size->kx items lo h' as ->
   acc.toList=as.map YC->R (.ok (.ret res)) { s with heap:=h',toks:=tk }) :
 ∀ (k i:Nat) (h:aax) (tk c:Nat) (acc:Array X7) (as:List Ye),items.size-i=k->i<=items.size->m8 h e it S i->h.IsListIter it l i->h.IsList l items->(∀ b o,b≠S->b≠e->b≠it->h₁.get? b=some o->h.get? b=some o) ->
  h.get? S=some { cls:=.type "list",dict:=none,data:=.seq acc c,slots:=#[] }->acc.toList=as.map YC->as.length=i->kx items lo h as->lo<=h.objs.size ->
  aaS (model prog w) A (.builtin "list.extend.loop" ⟨[.ref S,.ref e,res],[]⟩) R { s with heap:=h,toks:=tk }:=by
 intro k
 induction k with
 | zero =>
  intro i h tk c acc as hk hi bV hit hl yT hS gO lF hG hz;have bI:i=items.size:=by lia
  refine Zb acj ?_;rw[YV aaj _];show Yr _ A.in1 (aaE (.ref e) >>= _) _ _ _;refine XX (Q4 (s:={ s with heap:=h,toks:=tk }) (A:=A.in1) hh bV hit hl (aaA (by lia)) λh' he=>?_);exact X3 (hR h' tk acc c as (λb o h1 h2 h3 q=>he b o h3 (yT b o h1 h2 h3 q)) (he S _ oX hS) (by lia) (hG.keep λb o hb q=>he b o (Y7 (Yp F2 hb)) q) gO)
 | succ k ih =>
  intro i h tk c acc as hk hi bV hit hl yT hS gO lF hG hz;have aS:i<items.size:=by lia
  refine Zb acj ?_;rw[YV aaj _];show Yr _ A.in1 (aaE (.ref e) >>= _) _ _ _;refine XX (Q3 (s:={ s with heap:=h,toks:=tk }) (A:=A.in1) bV (X4 hS) hit hl (YK aS) a7 λh' cL j6 hT hsz gM=>?_);have ko:=gM S _ oW oX hS;have F3:acc.size=i:=by
   have:acc.toList.length=i:=by rw[gO,XY,lF]
   simpa using this
  show Yr _ A.in1 (acu S (·.push (.ref h.objs.size)) >>= _) _ _ _;refine XX ?_;have F4:lo<=h.objs.size:=hz;have sb:∀ b o,b≠S->h'.get? b=some o->(h'.update S (Zm (·.push (.ref h.objs.size)))).get? b=some o:=λb o hb q=>(Yl _ _ (Y1 hb)).trans q;refine Z5 ko rfl (X3 ⟨ZX aaj _,ih (i+1) _ (tk+1) _ (acc.push (.ref h.objs.size)) (as++[h.objs.size]) (by lia) aS
   (cL.keep sb (Y1 oW)) (j6.at λo q=>sb it o (Y1 oX) q) ((hl.at λo q=>gM l o hle oO q).at λo q=>sb l o vx q)
   (λb o h1 h2 h3 q=>sb b o h1 (gM b o h2 h3 (yT b o h1 h2 h3 q))) (YQ _ ko rfl) (by rw[aez,gO];simp) (by rw[Yh,lF];rfl) ?_ ?_⟩)
   (by rw[F3];lia) (by show (acc.push _).size<=Yt+1;rw[Array.size_push,F3];lia)
  .have up:∀ b o,lo<=b->h.get? b=some o->(h'.update S (Zm (·.push (.ref h.objs.size)))).get? b=some o:=λb o hb q =>
    sb b o (Y7 (Yp F1 hb)) (gM b o (Y7 (Yp Q6 hb)) (Y7 (Yp F2 hb)) q)
   have G':=hG.keep up;refine⟨?_,?_,?_⟩
   .refine List.pairwise_append.mpr ⟨hG.rise,List.pairwise_singleton _ _,λa ha b hb=>?_⟩;rw[YG.mp hb];exact hG.there ha
   .intro a ha;rcases Yz.mp ha with ha|ha
    .exact hG.above a ha
    .rw[YG.mp ha];exact F4
   .intro j a hj;by_cases hjl:j<as.length
    .rw[YX hjl] at hj;exact G'.pairs j a hj
    .rw[Za (by lia)] at hj;have Q7:j-as.length=0:=by
      rcases Nat.eq_zero_or_pos (j-as.length) with z|z
      .exact z
      .rw[Y9 (by rw[Yx];exact z)] at hj;cases hj
     rw[Q7] at hj;cases hj;obtain rfl:j=i:=by lia
     exact⟨_,_,YK aS,sb _ _ (Y7 (Yp F1 F4)) hT⟩
  .rw[(Zs ..).1];show lo<=h'.objs.size;rw[hsz];exact aex hz
end
theorem Q8:aen (.type "enumerate") "__len__" = pure none:=by rw[abW,aaL];kernel_rfl
theorem Ra:aen (.type "enumerate") "__length_hint__" = pure none:=by rw[abW,aaL];kernel_rfl
section
theorem Rb(hh:A.handled=none)(old:X7)(he:IsEnum s.heap e it 0 old)(hit:s.heap.IsListIter it l 0)(hl:s.heap.IsList l items)(a7:e≠it)(hle:l≠e)(oO:l≠it)(S:Ye)(oW:S≠e)(oX:S≠it)(vx:l≠S)(res:X7)(c:Nat)(hS:s.heap.get? S=some { cls:=.type "list",data:=.seq #[] c })(hn:items.size<=Yt)(hR:∀ g tk acc c' as,(∀ b o,b≠S->b≠e->b≠it->s.heap.get? b=some o->g.get? b=some o)->g.get? S=some { cls:=.type "list",dict:=none,data:=.seq acc c',slots:=#[] }->as.length=items.size->kx items s.heap.objs.size g as ->
 acc.toList=as.map YC->R (.ok (.ret res)) { s with heap:=g,toks:=tk }) :
 Yr (model prog w) A.in1 (Z8 (.ref S) (.ref e) res)
  (λf u=>match f with|.done f=>R (.ok f) u|.again k=>k.quiet=true/\aaS (model prog w) A k R u) (λe u=>R (.error e) u) s:=by
 have h1:acA (.ref S) (.ref e)=false:=by simp[acA,oW]
 have hT:s.TypeIs (.ref e) "enumerate" := ⟨_,he,rfl⟩;unfold Z8;refine XX (wpAny_typeOf hT ?_);rw[if_neg (by rw[h1];decide)];refine XX (acv he ?_);refine XX (Zz ?_);unfold aaM;refine XX (abU hT Q8 ?_);show Yr _ A.in1 (specialOf (YC e) (ZI "__length_hint__") >>= _) _ _ _;refine XX (abU hT Ra ?_);refine X3 ?_;show Yr _ A.in1 (rule "list.extend.makes-room" >>= λ_=>afH (.ref S) >>= λ_=>again (.builtin "list.extend.loop" ⟨[.ref S,.ref e,res],[]⟩)) _ _ _;refine XX (adu ?_);refine XX ?_;show Yr _ A.in1 (acu S (·.push .none) >>= λ_=>acu S (·.pop)) _ _ _;refine XX (Z5 hS rfl ?_);have F5:=YQ (Zm (·.push Value.none)) hS rfl;refine Z5 F5 rfl ?_;have Rc:=YQ (Zm (·.pop)) F5 rfl;have ky:∀ b o,b≠S->s.heap.get? b=some o->((s.heap.update S (Zm (·.push Value.none))).update S (Zm (·.pop))).get? b=some o :=
  λb o hb e=>(Yl _ _ (Y1 hb)).trans ((Yl _ _ (Y1 hb)).trans e)
 have sz:((s.heap.update S (Zm (·.push Value.none))).update S (Zm (·.pop))).objs.size=s.heap.objs.size:=by rw[(Zs ..).1,(Zs ..).1]
 refine X3 ⟨ZX aaj _,Q5 (s:=s) (l:=l) (it:=it) (lo:=s.heap.objs.size) (items:=items) (h₁:=s.heap) hh a7 oW oX vx hle oO (X4 hS) (X4 he) (let ⟨_,q,_⟩:=hit;X4 q) hn res hR
  items.size 0 _ s.toks _ #[] [] rfl (YB _) (.inl ⟨old,ky _ _ (Y1 oW) he⟩) (hit.at λo q=>ky it o (Y1 oX) q) (hl.at λo q=>ky l o vx q) (λb o h1 _ _ q=>ky b o h1 q) Rc rfl rfl ⟨.nil,(λ_ h=>nomatch h),λj a h=>by cases h⟩ (by rw[sz];exact X9 _)⟩
theorem Rf(hh:A.handled=none)(old:X7)(he:IsEnum s.heap e it 0 old)(hit:s.heap.IsListIter it l 0)(hl:s.heap.IsList l items)(a7:e≠it)(hle:l≠e)(oO:l≠it)(hn:items.size<=Yt)(hQ:∀ g tk acc c as,(∀ b o,b≠e->b≠it->s.heap.get? b=some o->g.get? b=some o)->g.get? s.heap.objs.size=some { cls:=.type "list",dict:=none,data:=.seq acc c,slots:=#[] }->as.length=items.size->kx items (s.heap.objs.size+1) g as ->
 acc.toList=as.map YC->Q (.ref s.heap.objs.size) { s with heap:=g,toks:=tk }) :
 Yr (model prog w) A (call (.type "list") [.ref e]) Q E s:=by
 have le:e<s.heap.objs.size:=X4 he;have li:it<s.heap.objs.size:=let ⟨_,q,_⟩:=hit;X4 q;have ll:l<s.heap.objs.size:=let ⟨_,q,_⟩:=hl;X4 q;refine callType_codes (Q₁:=λy s₁=>y = .ref s.heap.objs.size/\s₁ = { s with heap:=s.heap.push { cls:=.type "list",data:=.seq #[] } }) PySem.F.called_list (PySem.F.typeCall_list_1 _) PySem.F.entry_list_init (code_list_new _ ⟨rfl,rfl⟩) λy s₁ h₁=>?_;obtain⟨rfl,rfl⟩:=h₁;have e0:(s.heap.push { cls:=.type "list",data:=.seq #[] }).get? s.heap.objs.size=some { cls:=.type "list",data:=.seq #[] }:=Ya _ rfl;refine⟨⟨_,e0,rfl⟩,PySem.F.args_list_init_2 _ _,?_⟩;show Yr _ A.in1.in1 (do let z <- ac5 (.ref s.heap.objs.size);afG (.ref s.heap.objs.size) (λ_=>#[]);letGo z.toList.reverse;Z8 (.ref s.heap.objs.size) (.ref e) .none) _ _ _;refine XX ?_;unfold ac5;refine XX (aaT e0 rfl (X3 ?_));refine XX (m:=acu s.heap.objs.size (λ_=>#[])) (Z5 e0 rfl ?_);have e1:=YQ (Zm (λ_=>(#[]:Array X7))) e0 rfl;have ky:∀ b o,b≠s.heap.objs.size->s.heap.get? b=some o->((s.heap.push { cls:=.type "list",data:=.seq #[] }).update s.heap.objs.size (Zm (λ_=>(#[]:Array X7)))).get? b=some o :=
  λb o hb e=>(Yl _ _ (Y1 hb)).trans (X2 _ e)
 have sz:((s.heap.push { cls:=.type "list",data:=.seq #[] }).update s.heap.objs.size (Zm (λ_=>(#[]:Array X7)))).objs.size=s.heap.objs.size+1:=by rw[(Zs ..).1,size_push']
 refine XX (acI ?_);exact Rb (A:=A.in1) hh old (ky e _ (Yk le) he) (hit.at λo q=>ky it o (Yk li) q) (hl.at λo q=>ky l o (Yk ll) q) a7 hle oO s.heap.objs.size (Y7 le) (Y7 li) (Yk ll) .none _ e1 hn
  λg tk acc c as hk hS lF hG gO=>⟨rfl,hQ g tk acc c as (λb o h1 h2 q=>hk b o (Yk (X4 q)) h1 h2 (ky b o (Yk (X4 q)) q)) hS lF (by rw[<- sz];exact hG) gO⟩
theorem Inv.F6(I:Inv X pins σ H s)(hf:cV X pins H T)(new:bK X.prog X.w (upd H T o) s.heap T o):Inv X pins σ (upd H T o) s:=by
 have jY:∀ b u,H b=some u->b≠T:=λb u e=>ie e hf.1;have up:∀ b u,H b=some u->upd H T o b=some u:=λb u e=>by rw[aG (jY b u e)];exact e
 refine I.step (g':=s.gens) (t':=s.toks) (d':=s.drawn) (h':=s.heap) (ch:=[T]) (λb hb=>?_) (λb o _ _ hc e _=>e) (λb o _ _ hc e _=>⟨o.slots,e⟩) (λb u hc e n=>by rw[aG (by simpa using hc)];exact n)
  (λb o hc e=>⟨o,e⟩) (λb xs e=>up b _ e) (λb _ _ e=>up b _ e) (λb ps e=>⟨#[],by rw[up b _ e];simp⟩) (λm hm=>hm) (λb u e=>?_) I.bare
 .obtain rfl:b=T:=by simpa using hb
  obtain⟨_,d1,d2,d3,d4,d5⟩:=hf;exact⟨d3,d1,d4,d5⟩
 .by_cases hb:b=T
  .subst hb;rw[ar] at e;cases e;exact new
  .rw[aG hb] at e;exact (I.az b u e).cK (λc v hc q=>q) (λc q=>up c _ q) λc xs q=>up c _ q
theorem Rg(h:cV X pins H b)(hb:b≠T):cV X pins (upd H T o) b:=⟨by rw[aG hb];exact h.1,h.2⟩
theorem F7:∀ (as:List Ye) (xs:List V) (us:List X7) (i:Nat) (H:Hp),Inv X pins σ H s->Vals xs us->as.length=xs.length->as.Pairwise (· < ·)->(∀ a∈as,cV X pins H a) ->
 (∀ j a u,as[j]?=some a->us[j]?=some u->∃ t,s.heap.get? a=some { cls:=.type "tuple",data:=.seq #[.int ((i+j:Nat):Int) t,u] }) ->
 ∃ H',aj H H'/\Inv X pins σ H' s/\(∀ b,b∉as->H' b=H b)/\∀ j a x,as[j]?=some a->xs[j]?=some x->H' a=some (.tup [.int ((i+j:Nat):Int),x])
 | [],[],us,i,H,I,r,hl,hp,hf,ht=>⟨H,λ_ _ e=>e,I,λ_ _=>rfl,λj a x h=>by cases h⟩
 | [],_::_,us,i,H,I,r,hl,hp,hf,ht=>by cases hl
 | _::_,[],us,i,H,I,r,hl,hp,hf,ht=>by cases hl
 | a::as,x::xs,us,i,H,I,r,hl,hp,hf,ht=>by
  cases us with
  | nil=>cases r
  | cons u us =>
  cases r with
  | cons r rs =>
  obtain⟨aS,dH⟩:=ad9.mp hp;have na:∀ b∈as,b≠a:=λb hb=>Y7 (aS b hb);obtain⟨t,h0⟩:=ht 0 a u rfl rfl;have I1:=Inv.F6 (o:=.tup [.int ((i+0:Nat):Int),x]) I (hf a (.head _)) ⟨xG,[.int ((i+0:Nat):Int) t,u],.cons ⟨_,rfl⟩ (.cons r .nil),⟨_,h0,rfl,_,rfl⟩⟩;obtain⟨H',s1,I2,k1,k2⟩:=F7 as xs us (i+1) _ I1 rs (by simpa using hl) dH (λb hb=>Rg (hf b (.tail _ hb)) (na b hb)) λj b v e1 e2=>by obtain⟨t',q⟩:=ht (j+1) b v e1 e2;exact⟨t',by rw[show i+1+j=i+(j+1) by lia];exact q⟩
  refine⟨H',λb v e=>s1 b v (by rw[aG (ie e (hf a (.head _)).1)];exact e),I2,λb hb=>?_,λj b y e1 e2=>?_⟩
  .rw[k1 b (λz=>hb (.tail _ z)),aG (λz=>hb (by rw[z];exact .head _))]
  .cases j with
   | zero =>
    cases e1;cases e2;rw[k1 a (λz=>na a z rfl),ar]
   | succ j =>
    have:=k2 j b y e1 e2;rw[show i+1+j=i+(j+1) by lia] at this;exact this
end
theorem F8:∀ as:List Ye,Vals (as.map V.ref) (as.map YC)
 | []=>.nil
 | _::as=>.cons rfl (F8 as)
def F9(K:XW)(ta:TA):TE:=λσ H Q=>ta σ H λvs H1=>∃ a xs,vs=[.ref a]/\ai K H1 a xs/\∀ l ys H',aj H1 H'->H1 l=none->H' l=some (.lst ys)->ys.length=xs.length ->
 (∀ j y x,ys[j]?=some y->xs[j]?=some x->∃ p,y = .ref p/\H1 p=none/\H' p=some (.tup [.int (j:Nat),x]))->Q (.ref l) H'
theorem Rh(hc:X.calm=true)(hg:Gl X "list")(hm:X.mg "list" = none)(qX:Gl X "enumerate")(lB:X.mg "enumerate" = none)(ha:PA X [e] ta)(hs:Yv [.Call (.Name "enumerate" p2) [e] [] fN] X.env=[(false,eval (.Call (.Name "enumerate" p2) [e] [] fN) X.env)]:=by rfl)(cM:Yv [e] X.env=[(false,eval e X.env)]:=by rfl) :
 PE X (.Call (.Name "list" p) [.Call (.Name "enumerate" p2) [e] [] fN] [] pos) (F9 X.K ta):=by
 intro pins s σ H Q I h;refine afY (ft I hg hm xf (YL ?_ hs rfl));rw[hs];show Yr _ _ (spliced ((false,eval (.Call (.Name "enumerate" p2) [e] [] fN) X.env)::ZZ pos [])) _ _ s;refine aae (afY (ft I qX lB C7 (YL (aB (ha fN pins s σ H _ I h) λus s1 zq=>?_) cM rfl)));obtain⟨vs,H1,I1,r1,q1⟩:=zq;obtain⟨a,xs,rfl,hq,q⟩:=q1;obtain⟨u,rfl,ru⟩:=vals1 r1;cases ru;obtain⟨aq,rv,pl,hz⟩:=I1.list hq;refine adO pl.isList λh' he hit hsz hk=>?_;refine aal ?_;have la:a<s1.heap.objs.size:=let ⟨_,e,_⟩:=pl.isList;X4 e;refine Rf (s:={ s1 with heap:=h' }) (l:=a) (items:=aq.toArray) (I1.ok.hd hc) .none he hit (pl.isList.at λo e=>hk a o e) (aeM _) (Yk (aaQ la)) (Yk la) (by rw[Yg,<- rv.length];exact hz) λg tk acc c as gR hD lF hG gO=>?_;have up:∀ b o,s1.heap.get? b=some o->g.get? b=some o:=λb o e=>gR b o (Yk (aaQ (X4 e))) (Yk (X4 e)) (hk b o e);have I2:Inv X pins σ H1 { s1 with heap:=g,toks:=tk }:=I1.kept (t':=tk) up;have yU:∀ b∈as,s1.heap.objs.size<=b:=λb hb=>by have:=hG.above b hb;have e:({ s1 with heap:=h' }:Yd).heap.objs.size=s1.heap.objs.size+2:=hsz;walk_at "o"
 obtain⟨H',s2,I3,k1,k2⟩:=F7 as xs aq 0 H1 I2 rv (by rw[lF,Yg];exact rv.length.symm) hG.rise (λb hb=>I1.gE (yU b hb) (I1.az.fresh (yU b hb))) λj b v e1 e2=>by
  obtain⟨t,x,e3,e4⟩:=hG.pairs j b e1;have:x=v:=by simpa [e2] using e3.symm
  subst this;exact⟨t,by rw[afW];exact e4⟩
 have hl:s1.heap.objs.size<=h'.objs.size:=by rw[hsz];exact Nat.le_add_right _ _
 have nl:h'.objs.size∉as:=λz=>absurd (hG.above _ z) (Nat.not_succ_le_self _);have f0:=I1.az.fresh hl;have Ga:as.length=xs.length:=by rw[lF,Yg];exact rv.length.symm
 refine⟨.ref h'.objs.size,upd H' h'.objs.size (.lst (as.map V.ref)),Inv.F6 I3 (I1.gE hl (by rw[k1 _ nl];exact f0)) ⟨by rw[XY,Ga];exact hz,acc.toList,c,?_,by rw[Array.toArray_toList];exact hD⟩,rfl,q _ (as.map V.ref) _ (λb v e=>?_) f0 (ar ..) (by rw[XY,Ga]) λj y x e1 e2=>?_⟩
 .rw[gO];exact F8 as
 .rw[aG (ie e f0)];exact s2 b v e
 .rw[Yf] at e1;obtain⟨b,hb,rfl⟩:=YJ.mp e1;have hm:=Yo hb;refine⟨b,rfl,I1.az.fresh (yU b hm),?_⟩;rw[aG (λz=>nl (by rw[<- z];exact hm))];have:=k2 j b x hb e2;rw[afW] at this;exact this
def lG:L2.St->Nat->(V->Prop)->Prop
 | [],_,_=>False
 | x::_,0,Q=>match x with|some v=>Q v|none=>False
 | _::σ,n+1,Q=>lG σ n Q
def bY(x:V)(Q:Int->Prop):Prop:=match x with|.int i=>Q i|_=>False
def lH(x:V)(Q:Bool->Prop):Prop:=match x with|.bl i=>Q i|_=>False
def rj(x:V)(Q:Ye->Prop):Prop:=match x with|.ref i=>Q i|_=>False
def Ri(xs:List V)(Q:V->Prop):Prop:=match xs with|[x]=>Q x|_=>False
def Rj(xs:List V)(Q:V->V->Prop):Prop:=match xs with|[x,y]=>Q x y|_=>False
def lJ(x:V)(Q:Bool->Prop):Prop:=match x with|.non=>Q true|_=>Q false
def jA(x:V)(Q:Bool->Prop):Prop:=match x with|.non=>Q false|_=>Q true
section
theorem Rk:lG (some v::σ) 0 Q=Q v:=rfl
theorem Rl:lG (o::σ) (n+1) Q=lG σ n Q:=rfl
theorem Rm:bY (.int i) QI=QI i:=rfl
theorem Rn:lH (.bl b) QB=QB b:=rfl
theorem Ro:rj (.ref a) QR=QR a:=rfl
theorem Rp:Ri [x] Q=Q x:=rfl
theorem Rq:Rj [x,y] Q2=Q2 x y:=rfl
theorem Rr:lJ .non QB=QB true:=rfl
theorem Rt:lJ (.int i) QB=QB false:=rfl
theorem Ru:lJ (.bl b) QB=QB false:=rfl
theorem Rv:lJ (.ref a) QB=QB false:=rfl
theorem Rw:jA .non QB=QB false:=rfl
theorem Rx:jA (.int i) QB=QB true:=rfl
theorem Ry:jA (.bl b) QB=QB true:=rfl
theorem Rz:jA (.ref a) QB=QB true:=rfl
theorem RA:jA (.str s) QB=QB true:=rfl
theorem RB:lJ (.str s) QB=QB false:=rfl
theorem lG.ex:∀ {σ:L2.St} {n:Nat},lG σ n Q->∃ v,σ[n]?=some (some v)/\Q v
 | [],_,h=>h.elim
 | some v::_,0,h=>⟨v,rfl,h⟩
 | none::_,0,h=>h.elim
 | _::σ,n+1,h=>lG.ex (σ:=σ) (n:=n) h
theorem bY.ex(h:bY x QI):∃ i,x = .int i/\QI i:=by cases x<;>first|exact⟨_,rfl,h⟩|exact h.elim
theorem lH.ex(h:lH x QB):∃ i,x = .bl i/\QB i:=by cases x<;>first|exact⟨_,rfl,h⟩|exact h.elim
theorem rj.ex(h:rj x QR):∃ i,x = .ref i/\QR i:=by cases x<;>first|exact⟨_,rfl,h⟩|exact h.elim
theorem jA.ex(h:jA x QB):QB (!decide (x = .non)):=by cases x<;>exact h
theorem lJ.ex(h:lJ x QB):QB (decide (x = .non)):=by cases x<;>exact h
end
section
variable{X:Cx}{e a b c:abD}{pos:Pos}{ta tb tc:TE}{op gH:CmpOp}
theorem Gb(h:Q (qF x)):jA x Q:=by cases x<;>exact h
theorem vy{c:Prop}[Decidable c]{Q:Bool->Prop}(h:Q (decide c)):if c then Q true else Q false:=by
 by_cases z:c
 .rw[decide_eq_true z] at h;exact (show _=_ from if_pos z).mpr h
 .rw[decide_eq_false z] at h;exact (show _=_ from if_neg z).mpr h
def RC(t:TE):TE:=λσ H Q=>∃ Q':VK,(∀ v H1,Q' v H1->Q v H1)/\t σ H Q'
theorem eK(h:PE X e ta):PE X e (RC ta):=λpins s σ H Q I ⟨Q',k,q⟩=>aB (h pins s σ H Q' I q) λ_ _ ⟨x,H1,I1,r1,q1⟩=>⟨x,H1,I1,r1,k _ _ q1⟩
theorem rk(h:PE X e ta)(k:∀ σ H Q,t' σ H Q->ta σ H Q):PE X e t':=λpins s σ H Q I q=>h pins s σ H Q I (k σ H Q q)
theorem m9(h:PT X e t)(k:∀ σ H Q,t' σ H Q->t σ H Q):PT X e t':=λpins s σ H Q I q=>h pins s σ H Q I (k σ H Q q)
theorem yV(h:a8 X f r)(k:∀ x y H Q,r' x y H Q->r x y H Q):a8 X f r':=λpins s σ H x y v u Q I rx ry q=>h pins s σ H x y v u Q I rx ry (k _ _ _ _ q)
def Gd(i:Nat):TE:=λσ H Q=>lG σ i λv=>Q v H
theorem aa(i:Nat)(hN:X.N[i]?=some x:=by rfl)(hv:tT X.env.scope x:=by first|exact abz rfl|exact aeE (abz rfl)|exact aeE (aeE rfl))(hd:(x == ("__debug__" : Str))=false:=by decide)(fq:(x == ("__classdict__" : Str))=false:=by decide):PE X (.Name x pos) (Gd i):=rk (pv i hN hv hd fq) λ_ _ _ h=>h.ex
def rm(C:Int->Int->Prop)(g:Int->Int->V):R2:=λx y H Q=>bY x λi=>bY y λj=>C i j/\Q (g i j) H
def vz(g:Int->Int->V):R2:=λx y H Q=>bY x λi=>bY y λj=>Q (g i j) H
def yW(g:Int->V):V->Hp->VK->Prop:=λx H Q=>bY x λi=>Q (g i) H
def yX(p:Int->Int->Prop)[∀ i j,Decidable (p i j)]:R2:=λx y H Q=>bY x λi=>bY y λj=>if p i j then Q (.bl true) H else Q (.bl false) H
theorem yY(h:a8 X f (rI C g)):a8 X f (rm C g):=yV h λx y H Q q=>by obtain⟨i,rfl,q1⟩:=bY.ex q;obtain⟨j,rfl,q5⟩:=bY.ex q1;exact⟨i,j,rfl,rfl,q5⟩
theorem gT(h:a8 X f (fF g)):a8 X f (vz g):=yV h λx y H Q q=>by obtain⟨i,rfl,q1⟩:=bY.ex q;obtain⟨j,rfl,q5⟩:=bY.ex q1;exact⟨i,j,rfl,rfl,q5⟩
theorem yZ[∀ i j,Decidable (p i j)](h:a8 X f (fF λi j=>.bl (decide (p i j)))):a8 X f (yX p):=yV h λx y H Q q=>by
 obtain⟨i,rfl,q1⟩:=bY.ex q;obtain⟨j,rfl,q5⟩:=bY.ex q1;clear q q1;refine⟨i,j,rfl,rfl,?_⟩;by_cases z:p i j
 .rw[if_pos z] at q5;show Q (.bl (decide (p i j))) H;rw[decide_eq_true z];exact q5
 .rw[if_neg z] at q5;show Q (.bl (decide (p i j))) H;rw[decide_eq_false z];exact q5
theorem RD(h:nR X f (rU g)):nR X f (yW g):=λpins s σ H x v Q I rx q=>h pins s σ H x v Q I rx q.ex
theorem bE:a8 X (aaY .Add) (vz λi j=>.int (i+j)):=gT KI
theorem dA:a8 X (aaY .Sub) (vz λi j=>.int (i-j)):=gT KJ
theorem oY:a8 X (aaY .Mod) (rm (λ_ j=>0<j) λi j=>.int (i % j)):=yY KL
theorem nc:a8 X (aaY .Mult) (rm ql λi j=>.int (i * j)):=yY LY
theorem Ge:a8 X (aaY .Mult) (rm oz λi j=>.int (i * j)):=yY NU
theorem gU:nR X (unaryOp .USub) (yW λi=>.int (-i)):=RD KO
def Gf(t:TE):TT:=λσ H Q=>t σ H λx H'=>lH x λk=>Q k H'
theorem cz(h:PE X e ta)(he:∀ whole,afJ e X.env whole=(do let v <- whole;aeg e.pos;holding [v] (truthy v)):=by intro _;rfl):PT X e (Gf ta):=m9 (Kr (eK h) he) λσ H Q q=>⟨_,λ_ _ h=>h.ex,q⟩
def oZ(p:Int->Int->Prop)[∀ i j,Decidable (p i j)](ta tb:TE):TT:=λσ H Q=>ta σ H λx H1=>tb σ H1 λy H2=>bY x λi=>bY y λj=>if p i j then Q true H2 else Q false H2
theorem Gg{p:Int->Int->Prop}[∀ i j,Decidable (p i j)]{x y:V}{H:Hp}{Q:Bool->Hp->Prop}(q:bY x λi=>bY y λj=>if p i j then Q true H else Q false H):yX p x y H (λz H'=>∃ k,z = .bl k/\Q k H'):=by
 obtain⟨i,rfl,q1⟩:=bY.ex q;obtain⟨j,rfl,q5⟩:=bY.ex q1;clear q q1;by_cases z:p i j
 .rw[if_pos z] at q5;exact (show _=_ from if_pos z).mpr ⟨_,rfl,q5⟩
 .rw[if_neg z] at q5;exact (show _=_ from if_neg z).mpr ⟨_,rfl,q5⟩
theorem vA[∀ i j,Decidable (p i j)](ho:a8 X (Zd op) (fF λi j=>.bl (decide (p i j))))(ha:PE X a ta)(hb:PE X b tb)(hm:aad op b=false):PT X (.Compare a [op] [b] pos) (oZ p ta tb) :=
 m9 (jS (yZ ho) (eK ha) (eK hb) hm) λσ H Q q=>⟨_,λx H1 q1=>⟨_,λy H2 q2=>Gg q2,q1⟩,q⟩
theorem ng(ha:PE X a ta)(hb:PE X b tb):PT X (.Compare a [.Lt] [b] pos) (oZ (λi j=>i<j) ta tb):=vA wO ha hb (c8 _)
theorem RE(ha:PE X a ta)(hb:PE X b tb):PT X (.Compare a [.LtE] [b] pos) (oZ (λi j=>i<=j) ta tb):=vA ed ha hb (c8 _)
theorem y0(ha:PE X a ta)(hb:PE X b tb):PT X (.Compare a [.Gt] [b] pos) (oZ (λi j=>j<i) ta tb):=vA pZ ha hb (c8 _)
theorem rn(ha:PE X a ta)(hb:PE X b tb):PT X (.Compare a [.GtE] [b] pos) (oZ (λi j=>j<=i) ta tb):=vA KQ ha hb (c8 _)
def eqT(x y:V)(Q:Bool->Prop):Prop:=match x with
 | .int i=>(match y with|.int j=>if i=j then Q true else Q false|.non=>Q false|.str _=>Q false|_=>False)
 | .str i=>(match y with|.str j=>if i=j then Q true else Q false|.non=>Q false|.int _=>Q false|_=>False)
 | .bl i=>(match y with|.bl j=>if i=j then Q true else Q false|.non=>Q false|_=>False)
 | .non=>(match y with|.non=>Q true|.int _=>Q false|.bl _=>Q false|.str _=>Q false|_=>False)
 | _=>False
def neT(x y:V)(Q:Bool->Prop):Prop:=match x with
 | .int i=>(match y with|.int j=>if ¬ i=j then Q true else Q false|.non=>Q true|.str _=>Q true|_=>False)
 | .str i=>(match y with|.str j=>if ¬ i=j then Q true else Q false|.non=>Q true|.int _=>Q true|_=>False)
 | .bl i=>(match y with|.bl j=>if ¬ i=j then Q true else Q false|.non=>Q true|_=>False)
 | .non=>(match y with|.non=>Q false|.int _=>Q true|.bl _=>Q true|.str _=>Q true|_=>False)
 | _=>False
section
theorem RF:eqT (.int i) (.int j) Q=if i=j then Q true else Q false:=rfl
theorem Gh:eqT (.str s) (.str t) Q=if s=t then Q true else Q false:=rfl
theorem RG:eqT (.bl b') (.bl b1) Q=if b'=b1 then Q true else Q false:=rfl
theorem RH:eqT .non .non Q=Q true:=rfl
theorem RI:eqT .non (.int j) Q=Q false:=rfl
theorem RJ:eqT (.int i) .non Q=Q false:=rfl
theorem RK:eqT (.int i) (.str s) Q=Q false:=rfl
theorem RL:eqT .non (.str s) Q=Q false:=rfl
theorem RM:neT (.int i) (.int j) Q=if ¬ i=j then Q true else Q false:=rfl
theorem RN:neT (.str s) (.str t) Q=if ¬ s=t then Q true else Q false:=rfl
theorem RO:neT .non .non Q=Q false:=rfl
theorem RP:neT .non (.int j) Q=Q true:=rfl
theorem RQ:neT (.int i) .non Q=Q true:=rfl
theorem Gi{c:Prop}[Decidable c]{Q:Bool->Prop}(q:if c then Q true else Q false):Q (decide c):=by
 by_cases z:c
 .rw[if_pos z] at q;rw[decide_eq_true z];exact q
 .rw[if_neg z] at q;rw[decide_eq_false z];exact q
theorem eqT.ex(h:eqT x y Q):jR x y=true/\Q (decide (x=y)):=by
 cases x<;>cases y<;>first
  | exact h.elim
  | exact⟨rfl,h⟩
  | (refine⟨rfl,?_⟩;have:=Gi h;simpa using this)
theorem neT.ex(h:neT x y Q):jR x y=true/\Q (!decide (x=y)):=by
 cases x<;>cases y<;>first
  | exact h.elim
  | exact⟨rfl,h⟩
  | (refine⟨rfl,?_⟩;have:=Gi h;simpa using this)
end
def Gj(ta tb:TE):TT:=λσ H Q=>ta σ H λx H1=>tb σ H1 λy H2=>eqT x y λk=>Q k H2
def Gk(ta tb:TE):TT:=λσ H Q=>ta σ H λx H1=>tb σ H1 λy H2=>neT x y λk=>Q k H2
theorem bZ(ha:PE X a ta)(hb:PE X b tb):PT X (.Compare a [.Eq] [b] pos) (Gj ta tb) :=
 m9 (jS nT (eK ha) (eK hb) (c8 _)) λσ H Q q=>⟨_,λx H1 q1=>⟨_,λy H2 q2=>⟨(eqT.ex q2).1,_,rfl,(eqT.ex q2).2⟩,q1⟩,q⟩
theorem kz(ha:PE X a ta)(hb:PE X b tb):PT X (.Compare a [.NotEq] [b] pos) (Gk ta tb) :=
 m9 (jS KP (eK ha) (eK hb) (c8 _)) λσ H Q q=>⟨_,λx H1 q1=>⟨_,λy H2 q2=>⟨(neT.ex q2).1,_,rfl,(neT.ex q2).2⟩,q1⟩,q⟩
def Gm(ta:TE):TT:=λσ H Q=>ta σ H λx H1=>lJ x λk=>Q k H1
def Gn(ta:TE):TT:=λσ H Q=>ta σ H λx H1=>jA x λk=>Q k H1
theorem cS(ha:PE X a ta):PT X (.Compare a [.Is] [.Constant .none j pos'] pos) (Gm ta):=m9 (wC (pQ (eK ha))) λσ H Q q=>⟨_,λx H1 q1=>⟨_,rfl,q1.ex⟩,q⟩
theorem fg(ha:PE X a ta):PT X (.Compare a [.IsNot] [.Constant .none j pos'] pos) (Gn ta):=m9 (wC (pR (eK ha))) λσ H Q q=>⟨_,λx H1 q1=>⟨_,rfl,jA.ex q1⟩,q⟩
def Gq(p q:Int->Int->Prop)[∀ i j,Decidable (p i j)][∀ i j,Decidable (q i j)](ta tb tc:TE):TT:=λσ H Q=>ta σ H λx H1=>tb σ H1 λy H2=>bY x λi=>bY y λj=>if p i j then (tc σ H2 λz H3=>bY z λk=>if q j k then Q true H3 else Q false H3) else Q false H2
theorem y9[∀ i j,Decidable (p i j)][∀ i j,Decidable (q i j)](ho:a8 X (Zd op) (fF λi j=>.bl (decide (p i j))))(cA:a8 X (Zd gH) (fF λi j=>.bl (decide (q i j))))(ha:PE X a ta)(hb:PE X b tb)(hc:PE X c tc)(hm:aeR [op,gH] [b,c]=false:=by with_unfolding_all rfl):PT X (.Compare a [op,gH] [b,c] pos) (Gq p q ta tb tc) :=
 m9 (KR (yZ ho) (yZ cA) (eK ha) (eK hb) (eK hc) hm) λσ H Q q=>⟨_,λx H1 q1=>⟨_,λy H2 q2=>by
  obtain⟨i,rfl,q3⟩:=bY.ex q2;obtain⟨j,rfl,q5⟩:=bY.ex q3;clear q2 q3;by_cases z:p i j
  .rw[if_pos z] at q5;exact (show _=_ from if_pos z).mpr ⟨_,rfl,_,λw' H4 q4=>by
    obtain⟨k,rfl,_⟩:=bY.ex q4;exact Gg (x:=.int j) q4,q5⟩
  .rw[if_neg z] at q5;exact (show _=_ from if_neg z).mpr ⟨_,rfl,⟨_,rfl,q5⟩⟩,q1⟩,q⟩
variable{rest:List abD}
def Gr(ta tb:TE):TE:=λσ H Q=>ta σ H λx H1=>lH x λc=>if c=true then tb σ H1 Q else Q (.bl false) H1
def Gs(ta tb:TE):TE:=λσ H Q=>ta σ H λx H1=>lH x λc=>if c=true then Q (.bl true) H1 else tb σ H1 Q
def Gu(ta:TE):TE:=λσ H Q=>ta σ H λx H1=>lH x λc=>Q (.bl (!c)) H1
theorem gp(ha:PE X a ta)(hb:PE X (.BoolOp .And (b::rest) pos) tb):PE X (.BoolOp .And (a::b::rest) pos) (Gr ta tb):=rk (Ks (eK ha) hb) λσ H Q q=>⟨_,λx H1 q1=>q1.ex,q⟩
theorem Gv(ha:PE X a ta)(hb:PE X (.BoolOp .Or (b::rest) pos) tb):PE X (.BoolOp .Or (a::b::rest) pos) (Gs ta tb):=rk (Kt (eK ha) hb) λσ H Q q=>⟨_,λx H1 q1=>q1.ex,q⟩
theorem RS(ha:PE X a ta):PE X (.UnaryOp .Not a pos) (Gu ta):=rk (Ku (eK ha)) λσ H Q q=>⟨_,λx H1 q1=>q1.ex,q⟩
def Gw(K:XW)(ta:TE)(f:Str):TE:=λσ H Q=>ta σ H λx H1=>rj x λa=>∃ C dx fs,H1 a=some (.ins C dx fs)/\b7 K C/\cj K C f/\∃ v,fs.lookup f=some v/\Q v H1
theorem bS{f:Str}{K:XW}(hK:X.K=K)(he:PE X e ta)(hb:abe e f X.env (eval e X.env)=eval e X.env):PE X (.Attribute e f pos) (Gw K ta f):=by
 subst hK;exact rk (K8 (eK he) hb) λσ H Q q=>⟨_,λx H1 q1=>by
  obtain⟨a,rfl,C,dx,fs,h1,h2,h3,v,h4,q2⟩:=q1.ex;exact⟨a,C,dx,fs,v,rfl,h1,h2,h3,h4,q2⟩,q⟩
def Gx(K:XW)(ta tv:TE)(f:Str):TS:=λD σ H=>tv σ H λy H1=>ta σ H1 λx H2=>rj x λa=>∃ C dx fs,H2 a=some (.ins C dx fs)/\b7 K C/\cj K C f/\fs.length<1000 /\
 D.nx σ (upd H2 a (.ins C dx (eM f y fs)))
theorem iG(ha:PE X o ta)(hv:PE X value tv)(hs:abL value (some (.Attribute o f pos')) pos.line X.env=pure false):PS X (.Assign [.Attribute o f pos'] value pos) (Gx X.K ta tv f):=λpins s σ H D I h =>
 K9 (eK ha) (eK hv) hs pins s σ H D I ⟨_,λy H1 q1=>⟨_,λx H2 q2=>by
  obtain⟨a,rfl,C,dx,fs,h⟩:=q2.ex;exact⟨a,C,dx,fs,rfl,h⟩,q1⟩,h⟩
end
section
variable{X:Cx}{K:XW}{a b e:abD}{es:List abD}{ta tb:TE}{t:TA}{pos p:Pos}
theorem ax(ha:PE X a ta)(hb:PE X b tb)(hs:wY b:=by exact λ_ _=>rfl):PE X (.Subscript a b pos) (mj (jU X.K) ta tb):=bc bf ha hb hs
theorem b0(ha:PE X a ta)(hb:PE X b tb)(h:X.K=K:=by rfl)(hs:wY b:=by exact λ_ _=>rfl):PE X (.Subscript a b pos) (mj (jU K) ta tb):=bc (MQ h) ha hb hs
end
structure Fn(K:XW)(mg:Str->Option X7)(x:Str)(st:ZO)(ps:List Str) where
 a:Ye
 fd:aa0
 F:mC K x x st a fd
 m:mg x=some (.ref a)
 b:Binds K fd ps []
structure Fm(K:XW)(x q:Str)(st:ZO)(ps:List Str) where
 a:Ye
 fd:aa0
 F:mC K x q st a fd
 b:Binds K fd ps []
section
theorem RT{CX:fX}{k n:Nat}{ps:List Str}{sp:Sp}{x:Str}{st:ZO}(N:Fn X.K X.mg x st ps)(F:dP X.prog X.w X.K X.mg X.base CX k N.a N.fd ps sp)(hr:bP n X.A)(hx:Passes CX X E0)(ha:PA X (e::es) t)
 (hk:k<=n:=by decide) (hg:Gl X x:=by rfl) (fY:(x == ("__debug__" : Str))=false:=by decide) (he:Yv (e::es) X.env=(false,eval e X.env)::Yv es X.env:=by rfl) (eN:(ZZ pos (Yv es X.env)).any (·.1)=false:=by rfl) :
 PE X (.Call (.Name x p) (e::es) [] pos) (qc sp [] E0 t):=bQ F (hr.mono hk) hg N.m N.F.kp N.b .nil hx ha fY he eN
end
theorem RU{α:Type}{n:Nat}{p:List α->Prop}(h:∀ u vs,vs.length=n->p (u::vs)):∀ us:List α,us.length=n+1->p us
 | u::vs,e=>h u vs (Nat.succ.inj e)
theorem RV{α:Type}{p:List α->Prop}(h:p []):∀ us:List α,us.length=0->p us
 | [],_=>h
structure Sc(N ps:List Str)(st:ZO):Prop extends qf N ps (dm st) where
 b:∀ (x q:Str) (kV doc pm:X7) (an:Option Ye) (aV ct:X7) (us:List X7),us.length=ps.length->bindArgs (aaI x q (nY st) (gI st) (dm st) .none kV doc pm an aV ct) ⟨us,[]⟩=pure (ps.zip us)
section
variable{P:Y0}{w:Zw}{K:XW}{mg:Str->Option X7}{base h:aax}{x q:Str}{st:ZO}{N ps:List Str}{k:Nat}{sp:Sp}{C:Ye}
inductive Fb(K:XW)(x q:Str)(st:ZO)(p:Ye->Prop):Prop
 | mk {f:Ye} {od an:Option Ye} {sl:Array (Option X7)} {oc kV dc pm cd ct:X7} (_:p f) (_:K.lookup f=some ⟨oc,od,.func (aaI x q (nY st) (gI st) (dm st) .none kV dc pm an cd ct),sl⟩) (_:acd K cd q=true) (_:Zx K (.ref f)=true)
def aM(K:XW)(x:Str)(f:Ye):Prop:=YE K Yw x=some (some (.ref f))
def dB(K:XW)(C:Ye)(x:Str)(f:Ye):Prop:=YD K (.ref C) x=some (some (.ref f))/\ade K (.ref f)=true
theorem Fb.fn(b:Fb K x x st (aM K x))(X:K.In h)(G:h.Ns Yw mg)(S:Sc N ps st):Nonempty (Fn K mg x st ps) :=
 let ⟨a,l,c,k⟩:=b;⟨⟨_,_,nZ l c k,Zo X G a,(nZ l c k).binds (S.b x x)⟩⟩
theorem Fb.fm(b:Fb K x q st (dB K C x))(S:Sc N ps st):∃ F:Fm K x q st ps,dB K C x F.a :=
 let ⟨a,l,c,k⟩:=b;⟨⟨_,_,nZ l c k,(nZ l c k).binds (S.b x q)⟩,a⟩
theorem Fn.bt{y:Str}(F:Fn K mg x st [y])(S:Sc N [y] st)(s:Yd)(v:X7):ael s F.fd ⟨[v],[]⟩ [(y,v)]:=by obtain⟨oc,od,kV,doc,pm,an,aV,ct,i5,e,lk,fq⟩:=F.F.ex;rw[e];exact .of_eq (S.b _ _ _ _ _ _ _ _ [v] rfl)
abbrev Ok(P:Y0)(w:Zw){K:XW}{mg:Str->Option X7}(base:aax)(k:Nat){x:Str}{st:ZO}{ps:List Str}(F:Fn K mg x st ps)(sp:Sp):Prop:=dP P w K mg base (dG P w) k F.a F.fd ps sp
abbrev Om(P:Y0)(w:Zw){K:XW}(mg:Str->Option X7)(base:aax)(k:Nat){x q:Str}{st:ZO}{ps:List Str}(F:Fm K x q st ps)(sp:Sp):Prop:=dP P w K mg base (dG P w) k F.a F.fd ps sp
theorem bb{F:Fn K mg x st ps}(S:Sc N ps st)
 (f6:∀ (aV:X7) (A:ZP) (outer:List Env) (s:Yd) (H:Hp) (vs:List V) (Q:VK) (E:XK),bP k (A.deeper (ZR x (dm st) s.heap.objs.size F.a aV))->sp vs H Q E ->
   ∃ t,aP (eO (dG P w) P w K mg base N x (dm st) F.a aV A outer s H E).nP (gI st) t/\t { nx:=λ_ H'=>Q .non H',rt:=Q } (start N vs) H)
 (len:∀ vs H Q E,sp vs H Q E->vs.length=ps.length:=by intro _ _ _ _ h;cases h;subst_vars;rfl):Ok P w base (k+1) F sp:=okN F.F S.1 len f6
theorem gV{F:Fn K mg x st ps}(S:Sc N ps st)
 (f6:∀ (aV:X7) (A:ZP) (outer:List Env) (s:Yd) (H:Hp) (vs:List V) (Q:VK) (E:XK),bP k (A.deeper (ZR x (dm st) s.heap.objs.size F.a aV))->sp vs H Q E ->
   ∃ t,aP (eO (dG P w) P w K mg base N x (dm st) F.a aV A outer s H E) (gI st) t/\t { nx:=λ_ H'=>Q .non H',rt:=Q } (start N vs) H)
 (len:∀ vs H Q E,sp vs H Q E->vs.length=ps.length:=by intro _ _ _ _ h;cases h;subst_vars;rfl):Ok P w base (k+1) F sp:=Dg F.F S.1 len f6
theorem kA{F:Fm K x q st ps}(S:Sc N ps st)
 (f6:∀ (aV:X7) (A:ZP) (outer:List Env) (s:Yd) (H:Hp) (vs:List V) (Q:VK) (E:XK),bP k (A.deeper (ZR q (dm st) s.heap.objs.size F.a aV))->sp vs H Q E ->
   ∃ t,aP (eO (dG P w) P w K mg base N q (dm st) F.a aV A outer s H E).nP (gI st) t/\t { nx:=λ_ H'=>Q .non H',rt:=Q } (start N vs) H)
 (len:∀ vs H Q E,sp vs H Q E->vs.length=ps.length:=by intro _ _ _ _ h;cases h;subst_vars;rfl):Om P w mg base (k+1) F sp:=okN F.F S.1 len f6
theorem o4{F:Fm K x q st ps}(S:Sc N ps st)
 (f6:∀ (aV:X7) (A:ZP) (outer:List Env) (s:Yd) (H:Hp) (vs:List V) (Q:VK) (E:XK),bP k (A.deeper (ZR q (dm st) s.heap.objs.size F.a aV))->sp vs H Q E ->
   ∃ t,aP (eO (dG P w) P w K mg base N q (dm st) F.a aV A outer s H E) (gI st) t/\t { nx:=λ_ H'=>Q .non H',rt:=Q } (start N vs) H)
 (len:∀ vs H Q E,sp vs H Q E->vs.length=ps.length:=by intro _ _ _ _ h;cases h;subst_vars;rfl):Om P w mg base (k+1) F sp:=Dg F.F S.1 len f6
end
section
theorem aE(i:Nat)(hN:X.N.Nodup)(he:PE X e te)(hi:X.N[i]?=some x:=by rfl)(hx:Loc X.env.scope x:=by first|exact abz rfl|exact aeE rfl)(hs:abL e (some (.Name x pos')) pos.line X.env=pure false:=by rfl)(hf:X.fn x=true∨X.env.scope.names.lookup x=some .local:=by first|exact .inl rfl|exact .inr rfl) :
 PS X (.Assign [.Name x pos'] e pos) (t4 te (cg i)):=ik hN hi hx he hs hf
theorem cp(i:Nat)(hN:X.N.Nodup)(hi:X.N[i]?=some x:=by rfl)(hx:Loc X.env.scope x:=by first|exact abz rfl|exact aeE rfl)(hf:X.fn x=true∨X.env.scope.names.lookup x=some .local:=by first|exact .inl rfl|exact .inr rfl):PG X (.Name x pos) (cg i):=fW hN hi hx hf
theorem aF{k n:Nat}{ps:List Str}{sp:Sp}{st:ZO}{CX:fX}{N:Fn X.K X.mg x st ps}(F:dP X.prog X.w X.K X.mg X.base CX k N.a N.fd ps sp)(hr:bP n X.A)(ha:PA X (e::es) t)(hx:Passes CX X E0:=by exact bC)
 (hk:k<=n:=by decide) (hg:Gl X x:=by rfl) (fY:(x == ("__debug__" : Str))=false:=by decide) (he:Yv (e::es) X.env=(false,eval e X.env)::Yv es X.env:=by rfl) (eN:(ZZ pos (Yv es X.env)).any (·.1)=false:=by rfl) :
 PE X (.Call (.Name x p) (e::es) [] pos) (qc sp [] E0 t):=RT N F hr hx ha hk hg fY he eN
end
theorem Gy(P:Int->Bool):∀ n:Nat,((Yn n).map λ(i:Nat)=>(i:Int)).filter P∈cI n
 | 0=>by simp[cI]
 | n+1=>by
  have ih:=Gy P n;rw[ab2,Zg,aed,cI];by_cases h:P n=true
  .refine Ym _ (Yc.mpr ⟨_,ih,?_⟩);simp[h]
  .refine Zc _ ?_;simpa [h] using ih
theorem GA:∀ (j:Nat) {s:List Int},s∈cI n->s.length+j<=n->∃ s'∈cI n,s'.length=s.length+j/\∀ x∈s,x∈s'
 | 0,s,h,_=>⟨s,h,rfl,λ_ z=>z⟩
 | j+1,s,h,hl=>by obtain⟨s1,h1,h2,h3⟩:=GA j h (by lia);obtain⟨s2,h4,h5,h6⟩:=E4 h1 (by lia);exact⟨s2,h4,by lia,λx hx=>h6 x (h3 x hx)⟩
end Gz
namespace Gz
open PySem L2
theorem rq:∀ {xs ys:List Int},xs.Nodup->(∀ x∈xs,x∈ys)->xs.length<=ys.length
 | [],_,_,_=>YB _
 | x::xs,ys,h,k=>by obtain⟨h1,h2⟩:=Zq.mp h;have hx:=k x (.head _);have ih:=rq (ys:=ys.erase x) h2 λy hy=>(adD (λz=>h1 (by rw[<- z];exact hy))).mpr (k y (.tail _ hy));rw[acB hx] at ih;have:=ac6 hx;rw[YY];omega
end Gz
namespace Gz
open PySem PySem.Spec PyProof.Rows L2
theorem GB(hL:(L.length:Int)<=mo)(hc:eJ ps c)(hg:∀ k s,gs[k]?=some s->bp s (c k))(gq:gs.length<=ps.length+1)(hw:meets (cn tb L) c)(ht:∀ r∈tb,r.1.2.toNat<=ps.length) :
 ∀ (t:Pp) (as:List Int),as.Nodup->(∀ x∈as,x∈L)->¬ Val ps gs tb mo t as
 | .nil,_,_,_,h=>h
 | .full,as,hn,hs,h=>by have:=rq hn hs;have h:mo<as.length:=h;lia
 | .cls x a b,as,hn,hs,h=>by
  obtain⟨⟨m,n,hm,kQ,bh⟩,ha,hb⟩:=h;have met:∀ (s:En × Nat) (k:Mk),iF gs tb as s k->(∀ e,s.1=some e->e∉L)->bp k.2 (c k.1)/\k.1<=ps.length:=λs k hk hl=>by
   obtain⟨h1,h2⟩:=hk;obtain⟨o,j⟩:=s;cases o with
   | none =>
    have h2:gs[j]?=some k.2:=h2;have:=(X6.mp h2).1;have h1:k.1=j:=h1;rw[h1];exact⟨hg _ _ h2,by lia⟩
   | some e =>
    have h2:e∉as/\((e,(j:Int)),k.2)∈tb:=h2;have h1:k.1=j:=h1;have gR:(j,k.2)∈cn tb L:=q8.mpr ⟨_,h2.2,hl e rfl,by simp⟩;have:=ht _ h2.2;rw[h1];exact⟨hw _ gR,by simpa using this⟩
  have step:∀ (e:Int) (t:Pp) (s:En × Nat) (k:Mk),iF gs tb as s k->s.1=some e->e∈L->Val ps gs tb mo t (as++[e])->sizeOf t<1+sizeOf x+sizeOf a+sizeOf b->False:=λe t s k hk es hl hv aS=>by
   have za:e∉as:=by obtain⟨_,h2⟩:=hk;rw[es] at h2;exact h2.1
   refine GB hL hc hg gq hw ht t (as++[e]) (acC.mpr ⟨hn,by simp,λy hy z hz=>?_⟩) (λy hy=>?_) hv
   .obtain rfl:z=e:=by simpa using hz
    exact λq=>za (q ▸ hy)
   .rcases Yz.mp hy with z|z
    .exact hs y z
    .obtain rfl:y=e:=by simpa using z
     exact hl
  by_cases h1:∃ e,x.1.1=some e/\e∈L
  .obtain⟨e,e1,e2⟩:=h1;rw[e1] at ha;exact step e a x.1 m hm e1 e2 ha (by lia)
  by_cases h2:∃ e,x.2.1=some e/\e∈L
  .obtain⟨e,e1,e2⟩:=h2;have hb:if x.1.1=some e then b = .nil else Val ps gs tb mo b (as++[e]):=by rw[e1] at hb;exact hb
   rw[if_neg (λz=>h1 ⟨e,z,e2⟩)] at hb;exact step e b x.2 n kQ e1 e2 hb (by lia)
  have m1:=met x.1 m hm λe he z=>h1 ⟨e,he,z⟩;have m2:=met x.2 n kQ λe he z=>h2 ⟨e,he,z⟩;refine OR (ms:=[m,n]) hc (λq hq=>?_) (λq hq=>?_) (.head _) (.tail _ (.head _)) bh
  .rcases Yi.mp hq with rfl|hq
   .exact m1.1
   .obtain rfl:q=n:=by simpa using hq
    exact m2.1
  .rcases Yi.mp hq with rfl|hq
   .exact m1.2
   .obtain rfl:q=n:=by simpa using hq
    exact m2.2
termination_by t=>sizeOf t
decreasing_by simp_wf;lia
theorem RW(he:1<=e)(rA:m<=e)(az:bX e t tb)(hc:eJ (YT (t-1).toNat (-d,u)) c)(hl:(es.length:Int)<=m)(kB:meets (cn tb es) c)(k:Nat):vg e t u d m tb k (c k):=by
 have h0:=Gy (λi=>es.contains i) e.toNat;have hn:(((Yn e.toNat).map λ(i:Nat)=>(i:Int)).filter λi=>es.contains i).length<=es.length:=by
  refine rq ?_ λx hx=>?_
  .refine (List.Pairwise.map _ (λa b fH=>?_) List.nodup_range).filter _;intro z;exact fH (by lia)
  .exact ads.mp (Yy.mp hx).2
 obtain⟨s,hs,sl,sup⟩:=GA (m.toNat-(((Yn e.toNat).map λ(i:Nat)=>(i:Int)).filter λi=>es.contains i).length) h0 (by lia);refine⟨s,hs,by lia,c,hc,λq hq=>?_,rfl⟩;obtain⟨r,hr,uh,rfl⟩:=q8.mp hq;refine kB _ (q8.mpr ⟨r,hr,λz=>uh (sup _ (Yy.mpr ⟨?_,ads.mpr z⟩)),rfl⟩);have ho:=az.2 r hr;unfold lq at ho;exact Yc.mpr ⟨r.1.1.toNat,YF.mpr (by lia),by lia⟩
theorem zb(f:Nat->Int):∀ i,(firstMet f i).Nodup
 | 0=>acg
 | i+1=>by
  rw[firstMet_succ];unfold step_dedup;split
  .exact zb f i
  .rename_i h;refine acC.mpr ⟨zb f i,by simp,λa ha b hb z=>h ?_⟩;obtain rfl:b=f i:=by simpa using hb
   exact YZ.mpr ⟨a,ha,by simpa using z⟩
theorem RX(ns:List Int)(x:Int):x∈firstMet (λi=>ns.getD i 0) ns.length↔x∈ns:=by
 have h:=firstMet_any (λi=>ns.getD i 0) ns.length x;have e:(Yn ns.length).map (λi=>ns.getD i 0)=ns:=by refine acT (by simp) λi h1 h2=>?_;simp[h2]
 rw[e] at h;constructor
 .intro z;have:ns.any (· == x)=true:=by rw[<- h];exact YZ.mpr ⟨x,z,by simp⟩
  obtain⟨y,hy,e⟩:=YZ.mp this;exact (by simpa using e:y=x) ▸ hy
 .intro z;have:(firstMet (λi=>ns.getD i 0) ns.length).any (· == x)=true:=by rw[h];exact YZ.mpr ⟨x,z,by simp⟩
  obtain⟨y,hy,e⟩:=YZ.mp this;exact (by simpa using e:y=x) ▸ hy
def GC(K:XW)(t:TE):TE:=λσ H Q=>t σ H λv H1=>∃ (a:Ye) (ns:List Int),v=V.ref a/\ai K H1 a (ns.map V.int)/\ns.length<=1000/\∀ zs:List Int,zs.Nodup->(∀ x,x∈zs↔x∈ns)->Q (.int zs.length) H1
theorem RY(hc:X.calm=true)(he:PE X e t)(yG:X.mg "len" = none)(lB:X.mg "set" = none)(mY:Gl X "len" := by rfl)(qX:Gl X "set" := by rfl)(cM:Yv [e] X.env=[(false,eval e X.env)]:=by rfl)(lC:Yv [.Call (.Name "set" p2) [e] [] fN] X.env=[(false,eval (.Call (.Name "set" p2) [e] [] fN) X.env)]:=by rfl) :
 PE X (.Call (.Name "len" p1) [.Call (.Name "set" p2) [e] [] fN] [] pos) (GC X.K t):=by
 intro pins s σ H Q I h;refine ZA (ft I mY yG cR ?_ (by decide) (by decide));refine aar ?_ (by rw[lC];rfl) rfl;rw[lC];show Yr _ _ (spliced ((false,eval (.Call (.Name "set" p2) [e] [] fN) X.env)::ZZ pos [])) _ _ s;refine aae ?_;refine ZA (ft I qX lB Fl ?_ (by decide) (by decide));refine YL ?_ (by rw[cM];rfl) rfl;rw[cM];show Yr _ _ (spliced ((false,eval e X.env)::ZZ fN [])) _ _ s;refine aae (aB (he pins s σ H _ I h) λu s1 zq=>?_);obtain⟨x,H1,I1,r1,q1⟩:=zq;obtain⟨a,ns,rfl,hS,hn,q⟩:=q1;cases r1;refine aal ?_;obtain⟨us,rv,pl,hz⟩:=I1.list hS;have hl:us.length=ns.length:=by have:=rv.length;rw[XY] at this;lia
 refine call_set_list (items:=us.toArray) (ns:=ns) (I1.ok.hd hc) pl.isList (intsAre_of rv) (by simp;rw[hl];exact Ze (Nat.succ_le_succ hn) (by decide)) λh2 tk RZ hk=>?_;refine aal ?_;obtain⟨o,es,ep,tb,g1,g2,g3,g4,g5,g6,g7,g8⟩:=RZ;have R0:us.toArray.size=ns.length:=by simp[hl]
 rw[R0] at g8;refine call_len_set g1 g2 g3 g7 (by rw[g8];have:=firstMet_length_le (λi=>ns.getD i 0) ns.length;lia) ?_;refine⟨.int es.size,H1,I1.kept λb o hb=>hk b o (X4 hb) hb,⟨_,rfl⟩,?_⟩;rw[g8];exact q _ (zb _ _) (RX ns)
def gu(sw gw:List W2)(tb:Tb)(m:Int)(L:List Int)(c:Nat->Int):Prop:=(L.length:Int)<=m/\(∀ (j:Nat) w,sw[j]?=some w->bL w (c (j+1)-c j))/\(∀ (j:Nat) w,gw[j]?=some w->bL w (c j))/\∀ r∈tb,r.1.1∉L->bp r.2 (c r.1.2.toNat)
theorem vB:meets (cn tb L) c ↔ ∀ r∈tb,r.1.1∉L->bp r.2 (c r.1.2.toNat):=by
 unfold meets cn;constructor
 .intro h r hr hn;exact h (r.1.2.toNat,r.2) (Yc.mpr ⟨r,Yy.mpr ⟨qS.mem_iff.mpr hr,by simpa using hn⟩,rfl⟩)
 .intro h m hm;obtain⟨r,hr,rfl⟩:=Yc.mp hm;obtain⟨h1,h2⟩:=Yy.mp hr;exact h r (qS.mem_iff.mp h1) (by simpa using h2)
theorem vC:(∀ (j:Nat) w,(pp.map fO)[j]?=some w->bL w (c (j+1)-c j))↔eJ pp c:=by
 constructor
 .intro h k hk;obtain⟨s,e,h1,h2⟩:=h k (fO (aC pp k)) (by rw[Yf,X0 hk];unfold aC;rw[XZ,X0 hk];rfl);unfold fO at e;cases e;exact⟨h1 _ rfl,h2 _ rfl⟩
 .intro h j w hw;rw[Yf] at hw;obtain⟨p,hp,rfl⟩:=YJ.mp hw;have hj:=(X6.mp hp).1;have:=h j hj;unfold aC at this;rw[XZ,hp] at this;exact⟨_,rfl,λa z=>by cases z;exact this.1,λa z=>by cases z;exact this.2⟩
theorem zc{gs:List S2}{c:Nat->Int}:(∀ (j:Nat) w,(gs.map some)[j]?=some w->bL w (c j)) ↔ ∀ (j:Nat) s,gs[j]?=some s->bp s (c j):=by
 constructor
 .intro h j s hs;obtain⟨s',e,z⟩:=h j (some s) (by rw[Yf,hs];rfl);cases e;exact z
 .intro h j w hw;rw[Yf] at hw;obtain⟨s,hs,rfl⟩:=YJ.mp hw;exact⟨s,rfl,h j s hs⟩
theorem R1(h:bX e t tb)(he:0<=e)(ht:0<=t):(tb.length:Int)<=e * t:=by
 have z:∀ {i i' j j':Int},i<i'->j<t->0<=j'->i * t+j<i' * t+j':=λ{i i' j j'} a b c=>by have:=Int.mul_le_mul_of_nonneg_right (show i+1<=i' by lia) ht;rw[af2,Int.one_mul] at this;lia
 have:=rq (xs:=tb.map λr=>r.1.1 * t+r.1.2) (ys:=(Yn (e * t).toNat).map λn:Nat=>(n:Int)) ?_ ?_
 .rw[XY,XY,Yb] at this;have:=aaz he ht;lia
 .have hn:=h.1;unfold List.Nodup at hn ⊢;rw[aeu] at hn ⊢;refine hn.imp_of_mem λ{a b} ha hb a7 q=>a7 ?_;obtain⟨⟨a1,a2⟩,a3,a4⟩:=h.2 a ha;obtain⟨⟨b1,b2⟩,b3,b4⟩:=h.2 b hb;rcases Int.lt_trichotomy a.1.1 b.1.1 with c|c|c
  .have:=z c a4 b3;lia
  .rw[c] at q;exact Prod.ext c (by lia)
  .have:=z c b4 a3;lia
 .intro x hx;obtain⟨r,hr,rfl⟩:=Yc.mp hx;obtain⟨⟨a1,a2⟩,a3,a4⟩:=h.2 r hr;have q:=z a2 a4 (Y6 0);have q0:=aaz a1 ht;exact Yc.mpr ⟨(r.1.1 * t+r.1.2).toNat,YF.mpr (by lia),by lia⟩
def HW(as:List S2)(w:W2):Prop:=(as=[]->w=none)/\(as≠[]->∃ lo hi,w=some (lo,hi)/\oy (as.map (·.1)) lo/\qG (as.map (·.2)) hi)
theorem j5.w(h:j5 H v as):∃ w,dW H v w/\HW as w:=by
 by_cases e:as=[]
 .exact⟨none,h.1 e,λ_=>rfl,λz=>absurd e z⟩
 .obtain⟨lo,hi,a,b,c⟩:=h.2 e;exact⟨some (lo,hi),a,λz=>absurd z e,λ_=>⟨lo,hi,rfl,b,c⟩⟩
theorem HW.in(h:HW as w)(lp:s∈as)(hx:bp s x):bL w x:=by
 obtain⟨lo,hi,rfl,a,b⟩:=h.2 (List.ne_nil_of_mem lp);refine⟨_,rfl,λy e=>?_,λy e=>?_⟩
 .rcases a.2 s.1 (Yc.mpr ⟨s,lp,rfl⟩) with z|⟨p,q,z1,z2,z3⟩
  .exact absurd (z.symm.trans e) (λz=>nomatch z)
  .have e:lo=some y:=e;rw[z1] at e;cases e;exact aas z3 (hx.1 _ z2)
 .rcases b.2 s.2 (Yc.mpr ⟨s,lp,rfl⟩) with z|⟨p,q,z1,z2,z3⟩
  .exact absurd (z.symm.trans e) (λz=>nomatch z)
  .have e:hi=some y:=e;rw[z2] at e;cases e;exact aas (hx.2 _ z1) z3
noncomputable def atK(e t u d m:Int)(tb:Tb)(k:Nat):List S2:=(ly e t u d m tb).map λss=>ba ss k
def GD(e t u d m:Int)(tb:Tb)(ws:List W2):Prop:=ws.length=t.toNat/\∀ (k:Nat) w,ws[k]?=some w->HW (atK e t u d m tb k) w
theorem R4(h:aw (λv (k:Nat)=>j5 H v (atK e t u d m tb k)) ys (Yn t.toNat)):∃ ws,aw (dW H) ys ws/\GD e t u d m tb ws:=by
 have gen:∀ (ys:List V) (ks:List Nat),aw (λv (k:Nat)=>j5 H v (atK e t u d m tb k)) ys ks->∃ ws,aw (dW H) ys ws/\ws.length=ks.length/\∀ (j k:Nat) w,ks[j]?=some k->ws[j]?=some w->HW (atK e t u d m tb k) w:=by
  intro ys
  induction ys with
  | nil =>
   intro ks h;cases ks with
   | nil=>exact⟨[],trivial,rfl,λj k w z=>by simp at z⟩
   | cons=>exact h.elim
  | cons y ys ih =>
   intro ks h;cases ks with
   | nil=>exact h.elim
   | cons k ks =>
    obtain⟨ws,a,b,c⟩:=ih ks h.2;obtain⟨w,i1,i2⟩:=h.1.w;refine⟨w::ws,⟨i1,a⟩,by simp[b],λj k' w' z1 z2=>?_⟩;cases j with
    | zero =>
     cases z1;cases z2;exact i2
    | succ j=>exact c j k' w' (by simpa using z1) (by simpa using z2)
 obtain⟨ws,a,b,c⟩:=gen ys _ h;rw[Yb] at b;refine⟨ws,a,b,λk w hw=>c k k w ?_ hw⟩;rw[YN (by rw[<- b];exact (X6.mp hw).1)]
section
end
theorem R5{e t u d m:Int}{tb:Tb}{k:Nat}{x:Int}{w:W2}(hu:0<=u)(hd:0<=d)(az:bX e t tb)(ht:1<=t)(hk:(k:Int)<t)(h:vg e t u d m tb k x)(hw:HW (atK e t u d m tb k) w):bL w x:=by obtain⟨o1,h1⟩:=Pn (m:=m) (k:=k) hu hd az ht hk;obtain⟨s,lp,hx⟩:=YZ.mp ((h1 x).mpr h);exact hw.in lp (ox.mp hx)
end Gz
namespace zd
open PySem L2 Gz
local macro_rules | `(tactic| walk_at "d") => `(tactic| dsimp only [seval, Nat.reduceAdd, Nat.reduceSub, ↓reduceIte, tY, B6, ue, mj, Cc, wB, tC, B5, B3, t4, cg, CH, qb, mv, qc, BS, BU, tB, BW, BX, BY, BZ, B0, B1, B2, B4, rI, fF, rU, Ce, Cf, Mn, Mo, Mp, Mq, Mr, Mf, Mg, Mh, Mi, Mj, Ml, ite_tt, ite_ff, L2.start, Ms, Mt, List.map_cons, List.map_nil, List.length_cons, List.length_nil, List.replicate, List.nil_append, List.cons_append, List.getElem?_cons_zero, List.getElem?_cons_succ, List.set_cons_zero, List.set_cons_succ, Bool.not_true, Bool.not_false, Ct, Cu, CV, Lz, CZ, Mu, Mv, Mw, ux, uC, NK, xj, wG, t5, xi, B9, CS, xS, wI, wH, Nx, Ny, Cq, Cr, wV, Cw, CL, CI, CJ, CT, C0, Nk, Nl, Nm, wQ, Dh, xF, xI, xM, Gd, Rk, Rl, Rm, Rn, Ro, Rp, Rq, Rr, Rt, Ru, Rv, RB, Rw, Rx, Ry, Rz, RA, rm, vz, yW, yX, Gf, oZ, Gj, Gk, RF, Gh, RG, RH, RI, RJ, RK, RL, RM, RN, RO, RP, RQ, Gm, Gn, Gq, Gr, Gs, Gu, Gw, Gx, qD, qE, Ec, ED, x4, N8, Em, Eo, Ou, EY, LK, mT, mU, cU, iZ, F9, E7, Pt, E6, yu, Pw, Fq, FE, Pq, GC, FF, FH])
local macro_rules | `(tactic| walk_at "s") => `(tactic| simp only [seval, Nat.reduceAdd, Nat.reduceSub, reduceCtorEq, ↓reduceIte, ite_tt, ite_ff, List.map_cons, List.map_nil, List.length_cons, List.length_nil, List.nil_append, List.cons_append, Option.some.injEq, V.int.injEq, V.bl.injEq, V.ref.injEq, List.cons.injEq, exists_eq_left, exists_eq_left', exists_and_left, true_and, and_true, decide_eq_true_eq, Nat.zero_add, Nat.sub_self, Nat.add_one_sub_one, decide_true, decide_false, Bool.not_eq_true', decide_eq_false_iff_not, false_and, exists_false, and_assoc, not_false_eq_true, not_true_eq_false, List.append_nil, Option.join_some])
local macro_rules | `(tactic| walk_at "p") => `(tactic| first | (walk_at "d"; repeat (first | walk_at "s" | walk_at "d")) | (walk_at "s"; repeat (first | walk_at "d" | walk_at "s")))
local macro_rules | `(tactic| walk_at "g") => `(tactic| try walk_at "p")
local macro_rules|`(tactic|rfl')=>`(tactic|walk_at "g")
local macro_rules | `(tactic| walk_at "c") => `(tactic| (refine ⟨⟨rfl, rfl, rfl, by decide +kernel, rfl, by decide +kernel, by decide +kernel⟩, fun _ _ _ _ _ _ _ _ => ?_⟩; (repeat (refine RU fun _ => ?_)); exact RV rfl))
theorem Fb.fp(b:Fb K x q st p)(S:Sc N ps st):∃ F:Fm K x q st ps,p F.a :=
 let ⟨a,l,c,k⟩:=b;⟨⟨_,_,nZ l c k,(nZ l c k).binds (S.b x q)⟩,a⟩
inductive dM(H:Hp)(v:V)(m:Mk):Prop
 | mk(t p:Ye)(_:v = .ref t)(_:H t=some (.tup [.int m.1,.ref p]))(_:H p=some (.tup [ev m.2.1,ev m.2.2]))
theorem dM.same(h:dM H v m)(s:aj H H'):dM H' v m:=let ⟨t,p,e,a,b⟩:=h;⟨t,p,e,s _ _ a,s _ _ b⟩
def top(i:Nat):ZO:=PySem.Challenge.pw_gaze_k68_no_great_rise_is_missed.main.body.getD i (.Pass ⟨0,0,0,0⟩)
abbrev zf:ZO:=top 8
abbrev zg:ZO:=top 9
abbrev zh:ZO:=top 10
abbrev zi:ZO:=top 11
abbrev zj:ZO:=top 13
abbrev zk:ZO:=top 14
abbrev zm:ZO:=top 15
abbrev zo:ZO:=top 16
abbrev zp:ZO:=top 17
abbrev zr:ZO:=top 20
abbrev zt:ZO:=top 21
abbrev zu:ZO:=top 22
abbrev zv:ZO:=inClass (top 24) 0
abbrev zw:ZO:=inClass (top 24) 1
abbrev zx:ZO:=inClass (top 24) 2
abbrev zy:ZO:=inClass (top 25) 0
abbrev zz:ZO:=inClass (top 25) 1
abbrev zA:ZO:=inClass (top 25) 2
abbrev zB:ZO:=inClass (top 26) 0
abbrev zC:ZO:=inClass (top 26) 1
abbrev zD:ZO:=inClass (top 26) 2
abbrev zE:ZO:=top 28
abbrev zF:ZO:=top 30
abbrev zG:ZO:=top 31
abbrev zH:ZO:=top 32
abbrev zI:ZO:=top 33
abbrev zJ:ZO:=top 34
abbrev zK:ZO:=top 35
abbrev zL:ZO:=top 36
abbrev zM:ZO:=top 37
abbrev zN:ZO:=top 38
abbrev zO:ZO:=top 40
abbrev zP:ZO:=top 41
abbrev zQ:ZO:=top 42
abbrev zR:ZO:=top 43
abbrev zS:ZO:=top 44
abbrev zT:ZO:=top 46
abbrev zU:ZO:=top 47
abbrev zV:ZO:=top 48
abbrev zW:ZO:=top 49
abbrev zX:ZO:=top 50
abbrev zY:ZO:=top 51
abbrev zZ:ZO:=top 53
abbrev z5:ZO:=top 54
abbrev z6:ZO:=top 55
abbrev z7:ZO:=top 56
abbrev z8:ZO:=top 57
abbrev z9:ZO:=inClass (top 61) 0
abbrev Aa:ZO:=inClass (top 61) 1
abbrev Ab:ZO:=inClass (top 61) 2
abbrev Ac:ZO:=inClass (top 61) 3
abbrev Ad:ZO:=inClass (top 61) 6
abbrev Ae:ZO:=inClass (top 61) 10
abbrev Af:ZO:=top 63
abbrev Ag:ZO:=top 64
abbrev Ah:ZO:=top 66
abbrev Ai:ZO:=top 67
abbrev Aj:ZO:=top 68
abbrev Ak:ZO:=top 69
abbrev Al:ZO:=top 70
abbrev Am:ZO:=top 71
abbrev An:ZO:=top 72
abbrev Ao:ZO:=top 73
abbrev Ap:ZO:=top 74
abbrev Aq:ZO:=top 75
abbrev Ar:ZO:=top 76
abbrev As:ZO:=top 77
abbrev Au:ZO:=top 78
abbrev Av:ZO:=top 79
abbrev Aw:ZO:=top 80
abbrev Ax:ZO:=top 81
abbrev Ay:ZO:=top 82
abbrev Az:ZO:=top 83
abbrev AA:ZO:=top 84
abbrev AB:ZO:=top 85
abbrev AD:ZO:=top 86
abbrev AE:ZO:=top 87
abbrev AF:ZO:=top 88
theorem GF:Sc ["lo","hi"] ["lo","hi"] zf:=by walk_at "c"
theorem vD:Sc ["one","other","lo","hi"] ["one","other"] zg:=by walk_at "c"
theorem rB:Sc ["some","whole","one"] ["some"] zh:=by walk_at "c"
theorem o5:Sc ["some","los","his","lo","hi"] ["some"] zi:=by walk_at "c"
theorem GG:Sc ["board","kind","turn"] ["board","kind","turn"] zj:=by walk_at "c"
theorem AG:Sc ["board","claim","part"] ["board","claim"] zk:=by walk_at "c"
theorem GH:Sc ["claim","kind","turn"] ["claim","kind","turn"] zm:=by walk_at "c"
theorem AH:Sc ["board","claim","own"] ["board","claim"] zo:=by walk_at "c"
theorem GI:Sc ["board","claim"] ["board","claim"] zp:=by walk_at "c"
theorem vE:Sc ["one","below","above"] ["one"] zr:=by walk_at "c"
theorem vF:Sc ["claim","found","part"] ["claim"] zt:=by walk_at "c"
theorem GJ:Sc ["first","last","one"] ["first","last","one"] zu:=by walk_at "c"
theorem GK:Sc ["self","first","last"] ["self","first","last"] zv:=by walk_at "c"
theorem GL:Sc ["self"] ["self"] zw:=by walk_at "c"
theorem GN:Sc ["self","one"] ["self","one"] zx:=by walk_at "c"
theorem GO:Sc ["self","first","last","stretch"] ["self","first","last","stretch"] zy:=by walk_at "c"
theorem GP:Sc ["self"] ["self"] zz:=by walk_at "c"
theorem GQ:Sc ["self"] ["self"] zA:=by walk_at "c"
theorem GR:Sc ["self","first","last","low","high"] ["self","first","last","low","high"] zB:=by walk_at "c"
theorem rC:Sc ["self","found","turn","lows"] ["self"] zC:=by walk_at "c"
theorem GS:Sc ["self"] ["self"] zD:=by walk_at "c"
theorem GU:Sc ["cell"] ["cell"] zE:=by walk_at "c"
theorem vG:Sc ["one","step","lo","hi"] ["one","step"] zF:=by walk_at "c"
theorem nh:Sc ["boxes","steps","kept","turn","box","left"] ["boxes","steps"] zG:=by walk_at "c"
theorem GV:Sc ["marks","turn"] ["marks","turn"] zH:=by walk_at "c"
theorem vH:Sc ["steps","marks","forth","backward"] ["steps","marks"] zI:=by walk_at "c"
theorem o6:Sc ["steps","marks","boxes","course","step","box"] ["steps","marks"] zJ:=by walk_at "c"
theorem GW:Sc ["one","other"] ["one","other"] zK:=by walk_at "c"
theorem GX:Sc ["one","by"] ["one","by"] zL:=by walk_at "c"
theorem ni:Sc ["steps","marks","tops","number","mark","turn"] ["steps","marks"] zM:=by walk_at "c"
theorem rD:Sc ["tops","marks","number","mark","top"] ["tops","marks"] zN:=by walk_at "c"
theorem GY:Sc ["board","eye"] ["board","eye"] zO:=by walk_at "c"
theorem GZ:Sc ["board","some"] ["board","some"] zP:=by walk_at "c"
theorem G0:Sc ["board"] ["board"] zQ:=by walk_at "c"
theorem kC:Sc ["steps","groups","found","name","marks","tops","beside","others","pair"] ["steps","groups"] zR:=by walk_at "c"
theorem rE:Sc ["eyes","some","eye"] ["eyes"] zS:=by walk_at "c"
theorem G1:Sc ["pairs","eye"] ["pairs","eye"] zT:=by walk_at "c"
theorem G2:Sc ["pair"] ["pair"] zU:=by walk_at "c"
theorem rF:Sc ["pairs","most","eye","others"] ["pairs","most"] zV:=by walk_at "c"
theorem G3:Sc ["pairs","eye","most"] ["pairs","eye","most"] zW:=by walk_at "c"
theorem nj:Sc ["pairs","most","one","other","first","second"] ["pairs","most"] zX:=by walk_at "c"
theorem nk:Sc ["board","claim","steps","goals","marks","pairs","aside"] ["board","claim"] zY:=by walk_at "c"
theorem rG:Sc ["board","claims","papers","claim","answer"] ["board","claims"] zZ:=by walk_at "c"
theorem rH:Sc ["board","event","fitting","without","having"] ["board","event"] z5:=by walk_at "c"
theorem G4:Sc ["board","pair","low","high"] ["board","pair","low","high"] z6:=by walk_at "c"
theorem G5:Sc ["one","other"] ["one","other"] z7:=by walk_at "c"
theorem rJ:Sc ["board","low","high","pairs","first","sure"] ["board","low","high"] z8:=by walk_at "c"
theorem G6:Sc ["self","eyes","turns","up","down","most"] ["self","eyes","turns","up","down","most"] z9:=by walk_at "c"
theorem G7:Sc ["self","eye"] ["self","eye"] Aa:=by walk_at "c"
theorem G8:Sc ["self","turn"] ["self","turn"] Ab:=by walk_at "c"
theorem G9:Sc ["self","eye","turn","lo","hi"] ["self","eye","turn","lo","hi"] Ac:=by walk_at "c"
theorem Hc:Sc ["self"] ["self"] Ad:=by walk_at "c"
theorem Hd:Sc ["self","eye","turn"] ["self","eye","turn"] Ae:=by walk_at "c"
theorem rK:Sc ["board","steps","asides","found"] ["board"] Af:=by walk_at "c"
theorem AI:Sc ["board","found"] ["board"] Ag:=by walk_at "c"
theorem He:Sc ["_law_script","_law_k","_law_prime","_law_many"] ["_law_script","_law_k","_law_prime","_law_many"] Ah:=by walk_at "c"
theorem AJ:Sc ["_law_script","_law_great"] ["_law_script"] Ai:=by walk_at "c"
theorem Hf:Sc ["_law_found"] ["_law_found"] Aj:=by walk_at "c"
theorem Hg:Sc ["_law_span_here","_law_number"] ["_law_span_here","_law_number"] Ak:=by walk_at "c"
theorem fP:Sc ["_law_script","_law_sort","_law_eyes","_law_turns","_law_unit","_law_ups","_law_downs"] ["_law_script"] Al:=by walk_at "c"
theorem rL:Sc ["_law_script","_law_shape_here","_law_base_here","_law_course","_law_turn","_law_step"] ["_law_script","_law_shape_here","_law_base_here"] Am:=by walk_at "c"
theorem nq:Sc ["_law_script","_law_k","_law_number","_law_unit","_law_lo","_law_hi","_law_open_end"] ["_law_script","_law_k","_law_number","_law_unit"] An:=by walk_at "c"
theorem iH:Sc ["_law_script","_law_shape_here","_law_course","_law_words","_law_wrong","_law_eye","_law_turn","_law_k","_law_number","_law_silent"] ["_law_script","_law_shape_here","_law_course"] Ao:=by walk_at "c"
theorem vI:Sc ["_law_world_here","_law_board_here","_law_spot"] ["_law_world_here"] Ap:=by walk_at "c"
theorem Hh:Sc ["_law_world_here","_law_course"] ["_law_world_here","_law_course"] Aq:=by walk_at "c"
theorem nr:Sc ["_law_begin","_law_claim","_law_sort","_law_turn","_law_lo","_law_hi","_law_part"] ["_law_begin","_law_claim","_law_sort","_law_turn"] Ar:=by walk_at "c"
theorem Hi:Sc ["_law_span_here"] ["_law_span_here"] As:=by walk_at "c"
theorem AK:Sc ["_law_steps","_law_one","_law_other","_law_up"] ["_law_steps","_law_one","_law_other"] Au:=by walk_at "c"
theorem Hj:Sc ["_law_world_here","_law_goals","_law_spot","_law_aside"] ["_law_world_here","_law_goals","_law_spot","_law_aside"] Av:=by walk_at "c"
theorem Hk:Sc ["_law_world_here","_law_steps","_law_goals","_law_paper","_law_eye","_law_aside"] ["_law_world_here","_law_steps","_law_goals","_law_paper","_law_eye","_law_aside"] Aw:=by walk_at "c"
theorem vJ:Sc ["_law_world_here","_law_steps","_law_goals","_law_paper","_law_aside","_law_one","_law_other"] ["_law_world_here","_law_steps","_law_goals","_law_paper","_law_aside"] Ax:=by walk_at "c"
theorem o7:Sc ["_law_world_here","_law_steps","_law_goals","_law_paper","_law_aside","_law_spans"] ["_law_world_here","_law_steps","_law_goals","_law_paper","_law_aside"] Ay:=by walk_at "c"
theorem rM:Sc ["_law_world_here","_law_claim","_law_paper","_law_own","_law_steps","_law_goals"] ["_law_world_here","_law_claim","_law_paper"] Az:=by walk_at "c"
theorem rN:Sc ["_law_script","_law_many","_law_shape_here","_law_turns","_law_ups"] ["_law_script","_law_many"] AA:=by walk_at "c"
theorem AL:Sc ["_law_span_here","_law_end"] ["_law_span_here"] AB:=by walk_at "c"
theorem vK:Sc ["_law_world_here","_law_board_here","_law_event","_law_found","_law_claims"] ["_law_world_here","_law_board_here","_law_event"] AD:=by walk_at "c"
theorem o8:Sc ["_law_script","_law_world_here","_law_board_here","_law_early","_law_late","_law_first_strip","_law_last_strip","_law_low","_law_high","_law_first","_law_last"] ["_law_script","_law_world_here","_law_board_here","_law_early","_law_late","_law_first_strip","_law_last_strip"] AE:=by walk_at "c"
theorem fQ:Sc ["_law_script","_law_shape_here","_law_course","_law_world_here","_law_board_here","_law_told","_law_turn","_law_one","_law_other","_law_early","_law_late"] ["_law_script"] AF:=by walk_at "c"
set_option genInjectivity false
set_option genSizeOf false
structure Tx(K:XW)(mg:Str->Option X7) where
 rO:Fn K mg "is_crossed" zf ["lo","hi"]
 rP:Fn K mg "meet" zg ["one","other"]
 rQ:Fn K mg "common" zh ["some"]
 rR:Fn K mg "hull" zi ["some"]
 rS:Fn K mg "has_part" zj ["board","kind","turn"]
 iI:Fn K mg "check_claim" zk ["board","claim"]
 rT:Fn K mg "stretches_of" zm ["claim","kind","turn"]
 lK:Fn K mg "paces" zo ["board","claim"]
 lL:Fn K mg "wanted" zp ["board","claim"]
 rV:Fn K mg "outside" zr ["one"]
 rW:Fn K mg "failures" zt ["claim"]
 rX:Fn K mg "parts_at" zu ["first","last","one"]
 jB:Fm K "__init__" "Spanned.__init__" zv ["self","first","last"]
 gW:Fm K "far" "Spanned.far" zw ["self"]
 gv:Fm K "all_at" "Spanned.all_at" zx ["self","one"]
 nu:Fm K "__init__" "Stayed.__init__" zy ["self","first","last","stretch"]
 kD:Fm K "ways" "Stayed.ways" zz ["self"]
 jC:Fm K "breaks" "Stayed.breaks" zA ["self"]
 lM:Fm K "__init__" "Rose.__init__" zB ["self","first","last","low","high"]
 kE:Fm K "ways" "Rose.ways" zC ["self"]
 jD:Fm K "breaks" "Rose.breaks" zD ["self"]
 rY:Fn K mg "number_in" zE ["cell"]
 rZ:Fn K mg "moved" zF ["one","step"]
 se:Fn K mg "narrowed" zG ["boxes","steps"]
 sf:Fn K mg "stretches_at" zH ["marks","turn"]
 si:Fn K mg "tube" zI ["steps","marks"]
 sk:Fn K mg "course_in" zJ ["steps","marks"]
 so:Fn K mg "lesser" zK ["one","other"]
 sq:Fn K mg "lifted" zL ["one","by"]
 sr:Fn K mg "ceilings" zM ["steps","marks"]
 sx:Fn K mg "crossing" zN ["tops","marks"]
 sy:Fn K mg "marks_of" zO ["board","eye"]
 sA:Fn K mg "marks_without" zP ["board","some"]
 sC:Fn K mg "groups_of" zQ ["board"]
 sD:Fn K mg "clashes" zR ["steps","groups"]
 sE:Fn K mg "choices" zS ["eyes"]
 iJ:Fn K mg "without" zT ["pairs","eye"]
 lN:Fn K mg "eyes_of" zU ["pair"]
 iK:Fn K mg "put_aside" zV ["pairs","most"]
 gX:Fn K mg "branch" zW ["pairs","eye","most"]
 gY:Fn K mg "paper" zX ["pairs","most"]
 x_ask:Fn K mg "ask" zY ["board","claim"]
 iL:Fn K mg "seek" zZ ["board","claims"]
 iM:Fn K mg "verdict" z5 ["board","event"]
 sF:Fn K mg "is_sure" z6 ["board","pair","low","high"]
 sG:Fn K mg "lies_within" z7 ["one","other"]
 lO:Fn K mg "windows" z8 ["board","low","high"]
 nv:Fm K "__init__" "Board.__init__" z9 ["self","eyes","turns","up","down","most"]
 lP:Fm K "has_eye" "Board.has_eye" Aa ["self","eye"]
 gZ:Fm K "has_turn" "Board.has_turn" Ab ["self","turn"]
 lQ:Fm K "tell" "Board.tell" Ac ["self","eye","turn","lo","hi"]
 kF:Fm K "tellings" "Board.tellings" Ad ["self"]
 lR:Fm K "check_spot" "Board.check_spot" Ae ["self","eye","turn"]
 sH:Fn K mg "tubes" Af ["board"]
 lS:Fn K mg "strips" Ag ["board"]
 sI:Fn K mg "_law_draw" Ah ["_law_script","_law_k","_law_prime","_law_many"]
 sJ:Fn K mg "_law_base" Ai ["_law_script"]
 lT:Fn K mg "_law_whole" Aj ["_law_found"]
 sL:Fn K mg "_law_within" Ak ["_law_span_here","_law_number"]
 sM:Fn K mg "_law_shape" Al ["_law_script"]
 sN:Fn K mg "_law_true_course" Am ["_law_script","_law_shape_here","_law_base_here"]
 sO:Fn K mg "_law_word" An ["_law_script","_law_k","_law_number","_law_unit"]
 sP:Fn K mg "_law_world" Ao ["_law_script","_law_shape_here","_law_course"]
 sQ:Fn K mg "_law_board" Ap ["_law_world_here"]
 sR:Fn K mg "_law_liars" Aq ["_law_world_here","_law_course"]
 sS:Fn K mg "_law_common" Ar ["_law_begin","_law_claim","_law_sort","_law_turn"]
 iN:Fn K mg "_law_empty" As ["_law_span_here"]
 lU:Fn K mg "_law_climb" Au ["_law_steps","_law_one","_law_other"]
 iO:Fn K mg "_law_mark" Av ["_law_world_here","_law_goals","_law_spot","_law_aside"]
 g9:Fn K mg "_law_branch" Aw ["_law_world_here","_law_steps","_law_goals","_law_paper","_law_eye","_law_aside"]
 kG:Fn K mg "_law_clash" Ax ["_law_world_here","_law_steps","_law_goals","_law_paper","_law_aside"]
 gx:Fn K mg "_law_refuted" Ay ["_law_world_here","_law_steps","_law_goals","_law_paper","_law_aside"]
 sT:Fn K mg "_law_refutes" Az ["_law_world_here","_law_claim","_law_paper"]
 sU:Fn K mg "_law_steep" AA ["_law_script","_law_many"]
 sV:Fn K mg "_law_span" AB ["_law_span_here"]
 iP:Fn K mg "_law_sure" AD ["_law_world_here","_law_board_here","_law_event"]
 lV:Fn K mg "_law_rises" AE ["_law_script","_law_world_here","_law_board_here","_law_early","_law_late","_law_first_strip","_law_last_strip"]
 ny:Fn K mg "law" AF ["_law_script"]
 R6:mg "all" = none
 AM:mg "any" = none
 R7:mg "bool" = none
 vL:mg "enumerate" = none
 R8:mg "int" = none
 lW:mg "isinstance" = none
 cT:mg "len" = none
 AN:mg "list" = none
 vM:mg "max" = none
 kH:mg "min" = none
 dg:mg "range" = none
 R9:mg "reversed" = none
 Hl:mg "set" = none
 Hm:mg "sorted" = none
 Hn:mg "sum" = none
 vN:mg "tuple" = none
 Ho:mg "zip" = none
 vO:Ye
 Xu:mg "GazeError" = some (.ref vO)
 lX:Ye
 AO:mg "NoBoard" = some (.ref lX)
 lY:Ye
 Hq:mg "NoTelling" = some (.ref lY)
 iQ:Ye
 Hr:mg "NoClaim" = some (.ref iQ)
 iR:Ye
 AQ:mg "NoEvent" = some (.ref iR)
 vP:Ye
 Xv:mg "Event" = some (.ref vP)
 dh:Ye
 Hs:mg "Spanned" = some (.ref dh)
 bN:Ye
 Sa:mg "Stayed" = some (.ref bN)
 bF:Ye
 Ht:mg "Rose" = some (.ref bF)
 aN:Ye
 Sb:mg "Board" = some (.ref aN)
 Hu:b7 K dh
 Hv:cj K dh "first"
 Hw:cj K dh "last"
 Hx:Mk K dh jB.a
 Xw:Meth K dh "far" gW.a
 Xx:Meth K dh "all_at" gv.a
 fR:b7 K bN
 sW:cj K bN "first"
 o9:cj K bN "last"
 sX:cj K bN "stretch"
 AR:Mk K bN nu.a
 Sd:Meth K bN "far" gW.a
 Hy:Meth K bN "all_at" gv.a
 Se:Meth K bN "ways" kD.a
 Sf:Meth K bN "breaks" jC.a
 dN:b7 K bF
 pd:cj K bF "first"
 lZ:cj K bF "last"
 sY:cj K bF "low"
 sZ:cj K bF "high"
 vQ:Mk K bF lM.a
 Sg:Meth K bF "far" gW.a
 Xy:Meth K bF "all_at" gv.a
 Sh:Meth K bF "ways" kE.a
 Si:Meth K bF "breaks" jD.a
 bO:b7 K aN
 pf:cj K aN "eyes"
 kI:cj K aN "turns"
 vR:cj K aN "up"
 vS:cj K aN "down"
 ph:cj K aN "most"
 pq:cj K aN "told"
 AS:Mk K aN nv.a
 Sj:Meth K aN "has_eye" lP.a
 tf:Meth K aN "has_turn" gZ.a
 Sk:Meth K aN "tell" lQ.a
 Hz:Meth K aN "tellings" kF.a
 Sl:Meth K aN "check_spot" lR.a
 HC:Ea K dh "__init__" jB.a
 tj:XC K lX
 vT:XC K lY
 vU:XC K iQ
 tm:XC K iR
 Sm:∃ t,mg "LAST_TURN" = some (.int 11 t)
 Sn:∃ t,mg "EYES_AT_MOST" = some (.int 7 t)
 So:∃ t,mg "TURNS_AT_MOST" = some (.int 12 t)
set_option genInjectivity true
set_option genSizeOf true
section
seal L2.PE L2.PS L2.aP L2.PA
inductive Sq(vs:List V)(H:Hp)(Q:VK)(aL:XK):Prop
 | mk(v:V)(_:vs=[v])(_:(v = .non ∨ ∃ i,v = .int i))(_:Q (.bl (isWhole v)) H)
theorem vV(T:Tx K mg):Ok P w base 1 T.lT Sq:=by
 refine bb Hf ?_;rintro _ _ _ _ _ _ _ _ _ ⟨v,rfl,hv,q⟩;refine⟨_,(ay (aA (gp (aY kX (by rfl) T.lW kW (ae (aa 0) (ae (kR (v:=.ty "int") rfl T.R8 Mb rfl) ag))) (gD (RS (aY kX (by rfl) T.lW kW (ae (aa 0) (ae (kR (v:=.ty "bool") rfl T.R7 Mc rfl) ag)))))))),?_⟩;rcases hv with rfl|⟨i,rfl⟩
 .rfl';exact q
 .rfl';exact q
inductive Sr(vs:List V)(H:Hp)(Q:VK)(aL:XK):Prop
 | mk(a b:En)(_:vs=[ev a,ev b])(_:Q (.bl (aW a b)) H)
theorem HD(T:Tx K mg):Ok P w base 1 T.rO Sr:=by
 refine bb GF ?_;rintro _ _ _ _ _ _ _ _ _ ⟨a,b,rfl,q⟩;refine⟨_,(ay (aA (gp (kS (pR (aa 0))) (gp (kS (pR (aa 1))) (gD (eZ (gT pZ) (aa 0) (aa 1) (c8 _))))))),?_⟩;rcases a with _|x
 .rfl';exact q
 rcases b with _|y
 .rfl';exact q
 rfl';exact q
inductive Ss(vs:List V)(H:Hp)(Q:VK)(aL:XK):Prop
 | mk(v u:V)(a b c d:En)(_:vs=[v,u])(_:aI H v a b)(_:aI H u c d)(_:∀ x H',aj H H'->D7 H' x (dt a c) (dv b d)->Q x H')
theorem AU(T:Tx K mg):Ok P w base 2 T.rP Ss:=by
 refine bb vD ?_;rintro _ _ _ _ H _ Q _ hr ⟨v,u,a,b,c,d,rfl,⟨p,rfl,hp⟩,⟨r,rfl,b5⟩,q⟩;refine⟨_,(au (aE 2 vD.nd (M4 rfl rfl T.vM (cE (bz.mk (fr:=[]) (ys:=[]) rfl (by decide +kernel) rfl (by decide +kernel) rfl rfl .nil .nil (by decide) rfl) rfl (t6 (aT (ae (ax (aa 0) af) (ae (ax (aa 1) af) ag)))) (λC s2 H2 ex pn=>⟨(gd (fg (aa 0))),(aa 0)⟩)) bq))
  (au (aE 3 vD.nd (M7 rfl rfl T.kH (cE (bz.mk (fr:=[]) (ys:=[]) rfl (by decide +kernel) rfl (by decide +kernel) rfl rfl .nil .nil (by decide) rfl) rfl (t6 (aT (ae (ax (aa 0) af) (ae (ax (aa 1) af) ag)))) (λC s2 H2 ex pn=>⟨(gd (fg (aa 0))),(aa 0)⟩)) bq))
  (au (aK (cz (aF (HD T) hr (ae (aa 2) (ae (aa 3) ag)))) (ay (aA bq)) aJ)
  (ay (aA (aT (ae (aa 2) (ae (aa 3) ag)))))))),?_⟩
 rfl';refine ak (ah.of hp) rfl (ak (ah.of b5) rfl ?_);rfl';refine⟨a9,λt ht=>⟨⟨_,ah.of ar⟩,D8 ar (λx H Q h=>?_) (λx H Q h=>?_) λl hl=>?_⟩⟩
 .rfl';exact Gb (Q:=λk=>Q k H) h
 .rfl';exact h
 refine⟨l,rfl,nums a c,ai.of ar,?_⟩;rw[NM];have s2:=(ao (o:=.tup [ev a,ev c]) ht).trans (ao (o:=.lst ((nums a c).map V.int)) hl);generalize upd (upd H t (.tup [ev a,ev c])) l (.lst ((nums a c).map V.int))=H2 at s2 ⊢;refine ak (ah.of (s2 _ _ hp)) rfl (ak (ah.of (s2 _ _ b5)) rfl ?_);rfl';refine⟨a9,λt' Su=>⟨⟨_,ah.of ar⟩,D8 ar (λx H Q h=>?_) (λx H Q h=>?_) λl' yK=>?_⟩⟩
 .rfl';exact Gb (Q:=λk=>Q k H) h
 .rfl';exact h
 refine⟨l',rfl,nums b d,ai.of ar,?_⟩;rw[NN];have s3:=s2.trans ((ao (o:=.tup [ev b,ev d]) Su).trans (ao (o:=.lst ((nums b d).map V.int)) yK));generalize upd (upd H2 t' (.tup [ev b,ev d])) l' (.lst ((nums b d).map V.int))=H3 at s3 ⊢;refine⟨_,_,rfl,?_⟩;cases hc:aW (dt a c) (dv b d) with
 | true =>
  rfl';exact q _ _ s3 ⟨λ_=>rfl,λz=>nomatch hc.symm.trans z⟩
 | false =>
  rfl';exact⟨a9,λp' dH=>q _ _ (s3.trans (ao dH)) ⟨λz=>(nomatch hc.symm.trans z),λ_=>aI.new⟩⟩
inductive Sv(K:XW)(vs:List V)(H:Hp)(Q:VK)(aL:XK):Prop
 | mk(a:Ye)(xs:List V)(as:List S2)(_:vs=[.ref a])(_:ai K H a xs)(_:xs.length<=Yt)(_:cv H xs as)(_:∀ v H',aj H H'->j5 H' v as->Q v H')
theorem Sw(T:Tx K mg):Ok P w base 1 T.rR (Sv K):=by
 refine bb o5 ?_;rintro _ _ _ s H _ Q _ _ ⟨a,xs,as,rfl,hS,hz,hs,q⟩;refine⟨_,(au (aK (bZ (aY cX (by rfl) T.cT cR (ae (aa 0) ag)) af) (ay (aA bq)) aJ)
  (au (k8 (i:=1) (bz.mk (fr:=[]) (ys:=[]) rfl (by decide +kernel) rfl (by decide +kernel) rfl rfl .nil .nil (by decide) rfl) rfl o5.nd rfl rfl (cu (aa 0)) (λC s2 H2 ex pn=>⟨cD,(b0 (K:=K) (aa 0) af)⟩))
  (au (k8 (i:=2) (bz.mk (fr:=[]) (ys:=[]) rfl (by decide +kernel) rfl (by decide +kernel) rfl rfl .nil .nil (by decide) rfl) rfl o5.nd rfl rfl (cu (aa 0)) (λC s2 H2 ex pn=>⟨cD,(b0 (K:=K) (aa 0) af)⟩))
  (au (aE 3 o5.nd (iX (jS wZ bq (aa 1) (by with_unfolding_all rfl)) bq (aY (M8 rfl) (by rfl) T.kH jV (ae (aa 1) ag))))
  (au (aE 4 o5.nd (iX (jS wZ bq (aa 2) (by with_unfolding_all rfl)) bq (aY (M5 rfl) (by rfl) T.vM ur (ae (aa 2) ag))))
  (ay (aA (aT (ae (aa 3) (ae (aa 4) ag)))))))))),?_⟩
 have hl:=hs.len;rfl';refine⟨_,dR hS,?_⟩;split
 .rename_i h0;have e:as=[]:=ZY.mp (by lia);exact q _ _ (aj.refl H) ⟨λ_=>rfl,λz=>absurd e z⟩
 rename_i h0;have a7:as≠[]:=λz=>h0 (by rw[z] at hl;simp[hl]);refine⟨⟨_,hS⟩,bR eo hz (n9 (p:=λ_=>true) (f:=uL H) hS (λx _ Q h=>?_) (λx hx _ Q h=>?_) ?_)⟩
 .rfl';exact h
 .rfl';obtain⟨t,_,ht⟩:=hs.mem hx;have e:=ht.fst;obtain⟨p,rfl,hp⟩:=ht;rw[e] at h;exact ak (ah.of hp) rfl h
 rw[Yj,filter_all,hs.fst];intro l1 h1;have s1:=ao (o:=.lst (as.map λs=>ev s.1)) h1;have L1:upd H l1 (.lst (as.map λs=>ev s.1)) l1=some (.lst ((as.map (·.1)).map ev)):=by rw[ar,Y8];rfl
 generalize upd H l1 (.lst (as.map λs=>ev s.1))=H1 at s1 L1 ⊢;have lC:=hs.same s1;rfl';refine⟨⟨_,s1.seq hS⟩,bR eo hz (n9 (p:=λ_=>true) (f:=uM H1) (s1.seq hS) (λx _ Q h=>?_) (λx hx _ Q h=>?_) ?_)⟩
 .rfl';exact h
 .rfl';obtain⟨t,_,ht⟩:=lC.mem hx;have e:=ht.snd;obtain⟨p,rfl,hp⟩:=ht;rw[e] at h;exact ak (ah.of hp) rfl h
 rw[Yj,filter_all,lC.snd];intro l2 h2;have s2:=ao (o:=.lst (as.map λs=>ev s.2)) h2;have L2:upd H1 l2 (.lst (as.map λs=>ev s.2)) l2=some (.lst ((as.map (·.2)).map ev)):=by rw[ar,Y8];rfl
 generalize upd H1 l2 (.lst (as.map λs=>ev s.2))=H2 at s2 L2 ⊢;have HE:=s2 _ _ L1;have tq:=s1.trans s2;have fin:∀ lo hi,oy (as.map (·.1)) lo->qG (as.map (·.2)) hi->2<=Yt/\∀ p,H2 p=none->Q (.ref p) (upd H2 p (.tup [ev lo,ev hi])):=λlo hi a b =>
  ⟨a9,λp hp=>q _ _ (tq.trans (ao hp)) ⟨λz=>absurd z a7,λ_=>⟨lo,hi,aI.new,a,b⟩⟩⟩
 have n1:as.map (·.1)≠[]:=by simpa using a7
 have n2:as.map (·.2)≠[]:=by simpa using a7
 rfl';refine⟨l1,_,rfl,.inl (ai.of HE),rfl,xX _,?_⟩;rw[if_neg (by decide),xW];rfl';have part:∀ lo,oy (as.map (·.1)) lo->uk K false .non (.ref l2) H2 (λz H1=>∃ k,z = .bl k/\if k=true then 2<=Yt/\∀ p,H1 p=none->Q (.ref p) (upd H1 p (.tup [ev lo,.non])) else ∃ x,ai K H1 l2 (x.map V.int)/\x≠[]/\2<=Yt/\∀ p,H1 p=none->Q (.ref p) (upd H1 p (.tup [ev lo,.int (jn x)]))):=λlo vW=>by
  refine⟨l2,_,rfl,.inl (ai.of L2),rfl,xX _,_,rfl,?_⟩;simp only[Yu,↓reduceIte];rw[xW];by_cases hn:(none:En)∈as.map (·.2)
  .rw[decide_eq_true hn,if_pos rfl];exact fin lo none vW (NT hn)
  .rw[decide_eq_false hn,if_neg (by decide)];exact⟨_,ai.of (by rw[L2,xY hn]),D9 hn n2,fin lo _ vW (NR hn n2)⟩
 split
 .rename_i hn;exact part none (NS hn)
 .rename_i hn;exact⟨_,ai.of (by rw[HE,xY hn]),D9 hn n1,part _ (NQ hn n1)⟩
def dC(e t u d m:Int):Prop:=(1<=e/\e<=7)/\(1<=t/\t<=12)/\0<=u/\0<=d/\0<=m/\m<=e
noncomputable def AV(e t u d m:Int)(p:Ye):List (Str × V):=[("eyes",.int e),("turns",.int t),("up",.int u),("down",.int d),("most",.int m),("told",.ref p)]
inductive Sx(B C:Ye)(vs:List V)(H:Hp)(Q:VK)(E:XK):Prop
 | mk(x dx:Ye)(e t u d m:Int)(_:vs=[.ref x,.int e,.int t,.int u,.int d,.int m])(_:H x=some (.ins B dx []))(_:(¬ dC e t u d m->E (.ref C) none H))(_:(dC e t u d m->∀ p H',H p=none->SameBut x H H'->H' x=some (.ins B dx (AV e t u d m p))->H' p=some (.dT [])->Q .non H'))
theorem Sy(T:Tx K mg):Om P w mg base 1 T.nv (Sx T.aN T.lX):=by
 refine o4 G6 ?_;rintro _ _ _ _ H _ _ E _ ⟨x,dx,e,t,u,d,m,rfl,hx,q0,q⟩;refine⟨_,(au (aK (PW.pt (cf (cB (y9 ed ed af (aa 1) (x6 T.Sn rfl))) (dO (cB (y9 ed ed af (aa 2) (x6 T.So rfl)))))) (ay (jd je rfl T.AO T.tj rfl (ae br ag))) aJ)
  (au (aK (PW.pt (cf (ng (aa 3) af) (dO (ng (aa 4) af)))) (ay (jd je rfl T.AO T.tj rfl (ae br ag))) aJ)
  (au (aK (cB (y9 ed ed af (aa 5) (aa 1))) (ay (jd je rfl T.AO T.tj rfl (ae br ag))) aJ)
  (au (iG (aa 0) (aa 1) rfl)
  (au (iG (aa 0) (aa 2) rfl)
  (au (iG (aa 0) (aa 3) rfl)
  (au (iG (aa 0) (aa 4) rfl)
  (au (iG (aa 0) (aa 5) rfl)
  (ay (iG (aa 0) EE rfl)))))))))),?_⟩
 rfl';have no:∀ D σ,¬ dC e t u d m->∀ x,uw T.lX E (qb (tC (.str x)) mv) D σ H:=λD σ z x=>⟨by show 1<=Yt;decide,q0 z⟩
 refine aQ (λh1=>aQ (λh2=>?_) λh2=>no _ _ (λz=>by unfold dC at z;lia) _) λh1=>no _ _ (λz=>by unfold dC at z;lia) _;refine aQ (λh3=>aQ (λh4=>?_) λh4=>no _ _ (λz=>by unfold dC at z;lia) _) λh3=>no _ _ (λz=>by unfold dC at z;lia) _;refine aQ (λh5=>no _ _ (λz=>by unfold dC at z;lia) _) λh5=>aQ (λh6=>no _ _ (λz=>by unfold dC at z;lia) _) λh6=>?_;refine aQ (λh7=>aQ (λh8=>?_) λh8=>no _ _ (λz=>by unfold dC at z;lia) _) λh7=>no _ _ (λz=>by unfold dC at z;lia) _;replace q:=q (by unfold dC;lia);refine⟨_,_,_,hx,T.bO,T.pf,(by show 0<1000;decide),_,_,_,ar,T.bO,T.kI,(by show 1<1000;decide),_,_,_,ar,T.bO,T.vR,(by show 2<1000;decide),_,_,_,ar,T.bO,T.vS,(by show 3<1000;decide),_,_,_,ar,T.bO,T.ph,(by show 4<1000;decide),?_⟩;rw[ic,ic,ic,ic];intro p hp;have HF:p≠x:=λz=>by rw[z,ar] at hp;cases hp
 refine⟨_,_,_,(ao hp) _ _ ar,T.bO,T.pq,(by show 5<1000;decide),q p _ (by rw[aG HF] at hp;exact hp) (λb o hb e=>?_) ar ?_⟩
 .rw[aG hb];exact (ao hp) _ _ (by rw[aG hb];exact e)
 .rw[aG HF,ar]
structure hJ(B:Ye)(H:Hp)(x:Ye)(e t u d m:Int)(p:Ye)(kvs:List (List Key × V)):Prop where
 ob:∃ dx,H x=some (.ins B dx (AV e t u d m p))
 tb:H p=some (.dT kvs)
theorem hJ.same(h:hJ B H x e t u d m p kvs)(s:aj H H'):hJ B H' x e t u d m p kvs:=let ⟨⟨dx,a⟩,b⟩:=h;⟨⟨dx,s _ _ a⟩,s _ _ b⟩
inductive Sz(B:Ye)(vs:List V)(H:Hp)(Q:VK)(aL:XK):Prop
 | mk(x p:Ye)(e t u d m i:Int)(kvs:List (List Key × V))(_:vs=[.ref x,.int i])(_:hJ B H x e t u d m p kvs)(_:Q (.bl (decide (0<=i/\i<e))) H)
inductive HG(B:Ye)(vs:List V)(H:Hp)(Q:VK)(aL:XK):Prop
 | mk(x p:Ye)(e t u d m i:Int)(kvs:List (List Key × V))(_:vs=[.ref x,.int i])(_:hJ B H x e t u d m p kvs)(_:Q (.bl (decide (0<=i/\i<t))) H)
theorem SA(T:Tx K mg):Om P w mg base 1 T.lP (Sz T.aN):=by
 refine kA G7 ?_;rintro _ _ _ _ _ _ _ _ _ ⟨x,p,e,t,u,d,m,i,kvs,rfl,⟨⟨dx,hx⟩,hp⟩,q⟩;refine⟨_,(ay (aA (Cm ed wO af (aa 1) (bS rfl (aa 0) rfl)))),?_⟩;rfl';refine aQ (λh1=>?_) λh1=>?_
 .refine⟨_,_,_,hx,T.bO,T.pf,_,rfl,?_⟩;rfl';rw[show decide (0<=i/\i<e)=decide (i<e) by simp[h1]] at q;exact q
 .rw[show decide (0<=i/\i<e)=false by simp[h1]] at q;exact q
theorem tu(T:Tx K mg):Om P w mg base 1 T.gZ (HG T.aN):=by
 refine kA G8 ?_;rintro _ _ _ _ _ _ _ _ _ ⟨x,p,e,t,u,d,m,i,kvs,rfl,⟨⟨dx,hx⟩,hp⟩,q⟩;refine⟨_,(ay (aA (Cm ed wO af (aa 1) (bS rfl (aa 0) rfl)))),?_⟩;rfl';refine aQ (λh1=>?_) λh1=>?_
 .refine⟨_,_,_,hx,T.bO,T.kI,_,rfl,?_⟩;rfl';rw[show decide (0<=i/\i<t)=decide (i<t) by simp[h1]] at q;exact q
 .rw[show decide (0<=i/\i<t)=false by simp[h1]] at q;exact q
inductive SD(B C:Ye)(vs:List V)(H:Hp)(Q:VK)(E:XK):Prop
 | mk(x p:Ye)(e t u d m i j:Int)(kvs:List (List Key × V))(_:vs=[.ref x,.int i,.int j])(_:hJ B H x e t u d m p kvs)(_:(¬ ((0<=i/\i<e)/\0<=j/\j<t)->E (.ref C) none H))(_:((0<=i/\i<e)/\0<=j/\j<t->Q .non H))
theorem SE(T:Tx K mg):Om P w mg base 2 T.lR (SD T.aN T.lY):=by
 refine o4 Hd ?_;rintro _ _ _ _ _ _ _ _ hr ⟨x,p,e,t,u,d,m,i,j,kvs,rfl,hb,q0,q⟩;refine⟨_,(ay (aK (PW.pt (cf (cB (cz (i4 (aa 0) T.bO T.Sj (SA T) (hr.mono (by decide)) T.lP.b .nil bC (ae (aa 1) ag)))) (dO (cB (cz (i4 (aa 0) T.bO T.tf (tu T) (hr.mono (by decide)) T.gZ.b .nil bC (ae (aa 2) ag))))))) (ay (jd je rfl T.Hq T.vT rfl (ae br ag))) aJ)),?_⟩;obtain⟨⟨dx,hx⟩,hp⟩:=id hb;rfl';refine⟨_,_,hx,rfl,x,p,e,t,u,d,m,i,kvs,rfl,hb,?_⟩;by_cases h1:0<=i/\i<e
 .rw[decide_eq_true h1];rfl';refine⟨_,_,hx,rfl,x,p,e,t,u,d,m,j,kvs,rfl,hb,?_⟩;by_cases h2:0<=j/\j<t
  .rw[decide_eq_true h2];rfl';exact q ⟨h1,h2⟩
  .rw[decide_eq_false h2];rfl';exact⟨by decide,q0 λz=>h2 z.2⟩
 .rw[decide_eq_false h1];rfl';exact⟨by decide,q0 λz=>h1 z.1⟩
inductive SF(B C:Ye)(vs:List V)(H:Hp)(Q:VK)(E:XK):Prop
 | mk(x p:Ye)(e t u d m i j:Int)(lo hi:En)(kvs:List (List Key × V))(_:vs=[.ref x,.int i,.int j,ev lo,ev hi])(_:hJ B H x e t u d m p kvs)(_:kvs.length<1000)(_:(¬ (((0<=i/\i<e)/\0<=j/\j<t)/\aW lo hi=false)->E (.ref C) none H))(_:(((0<=i/\i<e)/\0<=j/\j<t)/\aW lo hi=false->∀ v H',SameBut p H H'->H' p=some (.dT (putK kvs (dX i j) v))->aI H' v lo hi->Q .non H'))
theorem SG(T:Tx K mg):Om P w mg base 3 T.lQ (SF T.aN T.lY):=by
 refine o4 G9 ?_;rintro _ _ _ _ _ _ _ _ hr ⟨x,p,e,t,u,d,m,i,j,lo,hi,kvs,rfl,hb,hl,q0,q⟩;refine⟨_,(au (fD (i4 (aa 0) T.bO T.Sl (SE T) (hr.mono (by decide)) T.lR.b .nil dn (ae (aa 1) (ae (aa 2) ag))))
  (au (aK (cz (aF (HD T) hr (ae (aa 3) (ae (aa 4) ag)))) (ay (jd je rfl T.Hq T.vT rfl (ae br ag))) aJ)
  (ay (Ep (gb hr) (bS rfl (aa 0) rfl) (aT (ae (aa 1) (ae (aa 2) ag))) (aT (ae (aa 3) (ae (aa 4) ag))) rfl)))),?_⟩
 obtain⟨⟨dx,hx⟩,hp⟩:=id hb;rfl';refine⟨_,_,hx,rfl,x,p,e,t,u,d,m,i,j,kvs,rfl,hb,λz=>q0 λy=>z y.1,λbI=>?_⟩;refine⟨lo,hi,rfl,?_⟩;cases hc:aW lo hi with
 | true =>
  rfl';exact⟨by decide,q0 λz=>by rw[hc] at z;cases z.2⟩
 | false =>
  rfl';refine⟨a9,λv hv=>⟨_,_,_,(ao hv) _ _ hx,T.bO,T.pq,_,rfl,a9,λk hk=>?_⟩⟩;have s2:=(ao (o:=.tup [ev lo,ev hi]) hv).trans (ao (o:=.tup [.int i,.int j]) hk);refine⟨p,rfl,_,oE.t (k:=dX i j) (s2 _ _ hp) ar (afR hl (by decide)),q ⟨bI,hc⟩ (.ref v) _ (λb o mF e=>?_) ar ⟨v,rfl,?_⟩⟩
  .rw[aG mF];exact s2 _ _ e
  .have vp:v≠p:=λz=>by rw[z] at hv;rw[hp] at hv;cases hv
   rw[aG vp];exact (ao hk) _ _ ar
inductive SH(K:XW)(vs:List V)(H:Hp)(Q:VK)(aL:XK):Prop
 | mk(a:Ye)(ns:List Int)(k pr m:Int)(_:vs=[.ref a,.int k,.int pr,.int m])(_:ai K H a (ns.map V.int))(_:gN ns)(_:(-1000000<=k/\k<=1000000))(_:0<pr)(_:0<m)(_:∀ p:Int,0<=p->p<m->Q (.int p) H)
theorem SJ(h:gN ns)(hk : -1000000<=k/\k<=1000000):oz k k/\oz (qH ns k+k * k) 48271:=by have c:=NY h k;have k1:Bt 64 k:=Bt.small (by lia) (by lia);have k2:Bt 128 (k * k):=k1.mul k1;have n2:Bt 64 48271:=Bt.small (by decide) (by decide);exact⟨⟨k1.up (by decide),k1.up (by decide)⟩,(c.add (k2.up (by decide))).up (by decide),n2.up (by decide)⟩
theorem cJ(T:Tx K mg):Ok P w base 1 T.sI (SH K):=by
 refine bb He ?_;rintro _ _ _ _ _ _ _ _ _ ⟨a,ns,k,pr,m,rfl,hS,hn,hk,hpr,hm,q⟩;refine⟨_,(au (aK (bZ (aY cX (by rfl) T.cT cR (ae (aa 0) ag)) af) (ay (aA af)) aJ)
  (ay (aA (aH oY (aH oY (aH Ge (aH bE (ax (aa 0) (aH oY (aa 1) (aY cX (by rfl) T.cT cR (ae (aa 0) ag)))) (aH Ge (aa 1) (aa 1))) af) (aa 2)) (aa 3))))),?_⟩
 rfl';refine⟨_,dR hS,?_⟩;rw[XY];have pm:=SJ hn hk;refine aQ (λh=>?_) λh=>?_
 .exact q 0 (by decide) hm
 .have h:0<(ns.length:Int):=by have:ns.length≠0:=λz=>h (by rw[z];rfl);lia
  refine⟨_,dR hS,?_⟩;rw[XY];refine⟨h,bH hS (NZ h) ?_⟩;rfl';exact⟨pm.1,pm.2,hpr,hm,q _ (afa _ (by lia)) (ad3 _ hm)⟩
inductive SK(K:XW)(vs:List V)(H:Hp)(Q:VK)(aL:XK):Prop
 | mk(a:Ye)(ns:List Int)(_:vs=[.ref a])(_:ai K H a (ns.map V.int))(_:gN ns)(_:∀ (p:Int) (H':Hp),aj H H'->Q (.int p) H')
theorem SM(T:Tx K mg):Ok P w base 2 T.sJ (SK K):=by
 refine bb AJ ?_;rintro _ _ _ _ _ _ _ _ hr ⟨a,ns,rfl,hS,hn,q⟩;refine⟨_,(au (aK (bZ (aY cX (by rfl) T.cT cR (ae (aa 0) ag)) af) (ay (aA af)) aJ)
  (au (aE 1 AJ.nd (aH oY (ax (aa 0) af) (aH wN af af)))
  (ay (aA (ax (aT (ae af (ae (aa 1) (ae (aH dA af (aa 1)) (ae (aH dA (aH wN af af) (aa 1)) ag))))) (aF (cJ T) hr (ae (aa 0) (ae af (ae af (ae af ag)))))))))),?_⟩
 rfl';refine⟨_,dR hS,?_⟩;rw[XY];refine aQ (λh=>q _ _ (aj.refl _)) λh=>?_;have h:0<(ns.length:Int):=by have:ns.length≠0:=λz=>h (by rw[z];rfl);lia
 have h0:cQ (ns.map V.int) 0=some (.int (ns.getD 0 0)):=cY (j:=0) (by rw[Yf,XZ,X0 (by lia)];rfl);refine bH hS h0 ?_;rfl';refine⟨⟨by decide,by decide,by decide⟩,⟨by decide,by decide,by decide⟩,by decide,λt ht=>?_⟩;refine⟨a,ns,_,_,_,rfl,(ao ht).seq hS,hn,by lia,by lia,by lia,λp p1 p2=>?_⟩;rcases (by lia:p=0∨p=1∨p=2∨p=3) with rfl|rfl|rfl|rfl
 all_goals exact ak (ah.of ar) rfl (q _ _ (ao ht))
inductive SN(K:XW)(vs:List V)(H:Hp)(Q:VK)(aL:XK):Prop
 | mk(p:Ye)(lo hi:En)(n:Int)(_:vs=[.ref p,.int n])(_:ah K H p [ev lo,ev hi])(_:Q (.bl (hold lo hi n)) H)
theorem HH(T:Tx K mg):Ok P w base 1 T.sL (SN K):=by
 refine bb Hg ?_;rintro _ _ _ _ H _ Q _ _ ⟨p,lo,hi,n,rfl,hp,q⟩;refine⟨_,(ay (aA (gp (Gv (kS (pQ (ax (aa 0) af))) (gD (eZ (gT ed) (ax (aa 0) af) (aa 1) (c8 _)))) (gD (Gv (kS (pQ (ax (aa 0) af))) (gD (eZ (gT ed) (aa 1) (ax (aa 0) af) (c8 _)))))))),?_⟩;rcases lo with _|lo<;>rcases hi with _|hi
 all_goals simp only[qD,qE] at hp
 all_goals
  rfl'
  repeat' first
  | refine ak hp rfl ?_
  | (walk_at "p")
  | (refine aQ (λhc=>?_) λhc=>?_)
 all_goals first
  | exact q
  | exact (congrArg (λb=>Q (V.bl b) H) (show hold _ _ n=_ by rw[aaF,xV];simp<;>lia)).mp q
inductive SO(K:XW)(vs:List V)(H:Hp)(Q:VK)(aL:XK):Prop
 | mk(p:Ye)(lo hi:En)(_:vs=[.ref p])(_:ah K H p [ev lo,ev hi])(_:Q (.bl (aW lo hi)) H)
theorem AW(T:Tx K mg):Ok P w base 1 T.iN (SO K):=by
 refine bb Hi ?_;rintro _ _ _ _ _ _ _ _ _ ⟨p,lo,hi,rfl,hp,q⟩;refine⟨_,(ay (aA (gp (kS (pR (ax (aa 0) af))) (gp (kS (pR (ax (aa 0) af))) (gD (eZ (gT pZ) (ax (aa 0) af) (ax (aa 0) af) (c8 _))))))),?_⟩;rcases lo with _|lo<;>rcases hi with _|hi
 all_goals simp only[qD,qE] at hp
 all_goals
  rfl'
  repeat' first
  | exact q
  | refine ak hp rfl ?_
  | (walk_at "p")
structure nz(e t u d m f:Int):Prop where
 he:1<=e/\e<=7
 ht:1<=t/\t<=12
 het:(e<=3/\t<=4)∨(e<=7/\t<=2)∨(e<=2/\t<=12)
 hu:0<=u/\u<=13
 hd:0<=d/\d<=13
 hm:0<=m/\m<=e
 hf:1<=f/\f<=1000000000000000000000000000000
noncomputable def pw(e t u d m f:Int):List V:=[.int e,.int t,.int u,.int d,.int m,.int f]
inductive SQ(K:XW)(vs:List V)(H:Hp)(Q:VK)(aL:XK):Prop
 | mk(a:Ye)(ns:List Int)(_:vs=[.ref a])(_:ai K H a (ns.map V.int))(_:gN ns)(_:∀ (r:Ye) (e t u d m f:Int) (H':Hp),aj H H'->H' r=some (.tup (pw e t u d m f))->nz e t u d m f->Q (.ref r) H')
def HI(e t:Int):Prop:=(1<=e/\1<=t)/\((e<=3/\t<=4)∨(e<=7/\t<=2)∨(e<=2/\t<=12))
theorem SR(T:Tx K mg):Ok P w base 2 T.sM (SQ K):=by
 refine bb fP ?_;rintro _ _ _ _ H _ _ _ hr ⟨a,ns,rfl,hS,hn,q⟩;refine⟨_,(au (aE 1 fP.nd (aF (cJ T) hr (ae (aa 0) (ae af (ae af (ae af ag))))))
  (au (aE 2 fP.nd (aH bE af (aF (cJ T) hr (ae (aa 0) (ae af (ae af (ae af ag)))))))
  (au (aE 3 fP.nd (aH bE af (aF (cJ T) hr (ae (aa 0) (ae af (ae af (ae af ag)))))))
  (au (aK (bZ (aa 1) af) (au (aE 2 fP.nd af)
    (ay (aE 3 fP.nd af))) aJ)
  (au (aK (bZ (aa 1) af) (au (aE 2 fP.nd af)
    (ay (aE 3 fP.nd af))) aJ)
  (au (aE 4 fP.nd (ax (aT (ae af (ae af (ae af (ae (aH wN af af) ag))))) (aF (cJ T) hr (ae (aa 0) (ae af (ae af (ae af ag)))))))
  (au (aE 5 fP.nd (aF (cJ T) hr (ae (aa 0) (ae af (ae af (ae af ag))))))
  (au (aE 6 fP.nd (aF (cJ T) hr (ae (aa 0) (ae af (ae af (ae af ag))))))
  (au (aK (bZ (aa 1) af) (au (aE 5 fP.nd af)
    (ay (aE 6 fP.nd af))) aJ)
  (ay (aA (aT (ae (aa 2) (ae (aa 3) (ae (aa 5) (ae (aa 6) (ae (aY (nU rfl) (by rfl) T.kH jV (ae (aa 2) (ae (aF (cJ T) hr (ae (aa 0) (ae af (ae af (ae af ag))))) ag))) (ae (aa 4) ag)))))))))))))))))),?_⟩
 refine aD (λσ H1=>∃ w:Int,σ=[some (.ref a),some (.int w),none,none,none,none,none]/\H1=H) (λN hN=>?_) ?_
 .rfl';refine⟨a,ns,_,_,_,rfl,hS,hn,by lia,by lia,by lia,λp p1 p2=>?_⟩;rfl';exact hN _ _ ⟨_,rfl,rfl⟩
 rintro _ yR σ H1 ⟨w,rfl,rfl⟩;subst yR;refine aD (λσ H2=>∃ e:Int,σ=[some (.ref a),some (.int w),some (.int e),none,none,none,none]/\H2=H1/\1<=e/\e<=3) (λN hN=>?_) ?_
 .rfl';refine⟨a,ns,_,_,_,rfl,hS,hn,by lia,by lia,by lia,λp p1 p2=>?_⟩;rfl';exact hN _ _ ⟨_,rfl,rfl,by lia,by lia⟩
 rintro _ yR σ H ⟨e,rfl,rfl,e1,e2⟩;subst yR;refine aD (λσ H2=>∃ t:Int,σ=[some (.ref a),some (.int w),some (.int e),some (.int t),none,none,none]/\H2=H/\1<=t/\t<=4) (λN hN=>?_) ?_
 .rfl';refine⟨a,ns,_,_,_,rfl,hS,hn,by lia,by lia,by lia,λp p1 p2=>?_⟩;rfl';exact hN _ _ ⟨_,rfl,rfl,by lia,by lia⟩
 rintro _ yR σ H1 ⟨t,rfl,rfl,t1,t2⟩;subst yR;refine aD (λσ H2=>∃ e t:Int,σ=[some (.ref a),some (.int w),some (.int e),some (.int t),none,none,none]/\H2=H1/\HI e t) (λN hN=>?_) ?_
 .rfl';exact aQ (λ_=>hN _ _ ⟨7,2,rfl,rfl,by decide,.inr (.inl (by decide))⟩) λ_=>hN _ _ ⟨e,t,rfl,rfl,⟨e1,t1⟩,.inl ⟨e2,t2⟩⟩
 rintro _ yR σ H ⟨e,t,rfl,rfl,hE⟩;subst yR;refine aD (λσ H2=>∃ e t:Int,σ=[some (.ref a),some (.int w),some (.int e),some (.int t),none,none,none]/\H2=H/\HI e t) (λN hN=>?_) ?_
 .rfl';exact aQ (λ_=>hN _ _ ⟨2,12,rfl,rfl,by decide,.inr (.inr (by decide))⟩) λ_=>hN _ _ ⟨e,t,rfl,rfl,hE⟩
 rintro _ yR σ H1 ⟨e,t,rfl,rfl,⟨e1,t1⟩,hE⟩;subst yR;refine aD (λσ H2=>∃ f:Int,σ=[some (.ref a),some (.int w),some (.int e),some (.int t),some (.int f),none,none]/\aj H1 H2/\1<=f/\f<=1000000000000000000000000000000) (λN hN=>?_) ?_
 .rfl';refine⟨⟨by decide,by decide,by decide⟩,by decide,λl hl=>?_⟩;refine⟨a,ns,_,_,_,rfl,(ao hl).seq hS,hn,by lia,by lia,by lia,λp p1 p2=>?_⟩;rcases (by lia:p=0∨p=1∨p=2∨p=3) with rfl|rfl|rfl|rfl
  all_goals exact ak (ah.of ar) rfl (hN _ _ ⟨_,rfl,ao hl,by decide,by decide⟩)
 rintro _ yR σ H2 ⟨f,rfl,s2,f1,f2⟩;subst yR;refine aD (λσ H3=>∃ u:Int,σ=[some (.ref a),some (.int w),some (.int e),some (.int t),some (.int f),some (.int u),none]/\H3=H2/\0<=u/\u<=13) (λN hN=>?_) ?_
 .rfl';refine⟨a,ns,_,_,_,rfl,s2.seq hS,hn,by lia,by lia,by lia,λp p1 p2=>?_⟩;rfl';exact hN _ _ ⟨_,rfl,rfl,by lia,by lia⟩
 rintro _ yR σ H3 ⟨u,rfl,rfl,hu⟩;subst yR;refine aD (λσ H4=>∃ d:Int,σ=[some (.ref a),some (.int w),some (.int e),some (.int t),some (.int f),some (.int u),some (.int d)]/\H4=H3/\0<=d/\d<=13) (λN hN=>?_) ?_
 .rfl';refine⟨a,ns,_,_,_,rfl,s2.seq hS,hn,by lia,by lia,by lia,λp p1 p2=>?_⟩;rfl';exact hN _ _ ⟨_,rfl,rfl,by lia,by lia⟩
 rintro _ yR σ H4 ⟨d,rfl,rfl,hd⟩;subst yR;refine aD (λσ H5=>∃ u d:Int,σ=[some (.ref a),some (.int w),some (.int e),some (.int t),some (.int f),some (.int u),some (.int d)]/\H5=H4/\(0<=u/\u<=13)/\0<=d/\d<=13) (λN hN=>?_) ?_
 .rfl';exact aQ (λ_=>hN _ _ ⟨0,0,rfl,rfl,by decide,by decide⟩) λ_=>hN _ _ ⟨u,d,rfl,rfl,hu,hd⟩
 rintro _ yR σ H5 ⟨u,d,rfl,rfl,hu,hd⟩;subst yR;rfl';refine⟨a,ns,_,_,_,rfl,s2.seq hS,hn,by lia,by lia,by lia,λp p1 p2=>?_⟩;rfl';refine⟨by decide,λr hr=>q r e t u d _ f _ (s2.trans (ao hr)) ar ⟨by lia,by lia,hE,hu,hd,?_,f1,f2⟩⟩;split<;>lia
def nA(u d:Int)(cs:List Int):Prop:=∀ i,i+1<cs.length->-d<=cs.getD (i+1) 0-cs.getD i 0/\cs.getD (i+1) 0-cs.getD i 0<=u
theorem nA.snoc(h:nA u d (cs++[n]))(h1 : -d<=k-n)(h2:k-n<=u):nA u d (cs++[n]++[k]):=by
 intro i hi;rw[Yh,Yh,Yx,Yx] at hi;by_cases e:i+1<(cs++[n]).length
 .have:=h i e;simp only[XZ] at this ⊢;rw[YX (l₁:=cs++[n]) e,YX (l₁:=cs++[n]) (by lia)];exact this
 .rw[Yh,Yx] at e;have ei:i=cs.length:=by lia
  subst ei;have a1:(cs++[n]++[k])[cs.length+1]?=some k:=by simp
  have a2:(cs++[n]++[k])[cs.length]?=some n:=by simp
  simp only[XZ,a1,a2,aa3];exact⟨h1,h2⟩
inductive SS(K:XW)(vs:List V)(H:Hp)(Q:VK)(aL:XK):Prop
 | mk(a b:Ye)(ns:List Int)(e t u d m f n:Int)(_:vs=[.ref a,.ref b,.int n])(_:ai K H a (ns.map V.int))(_:gN ns)(_:ah K H b (pw e t u d m f))(_:nz e t u d m f)(_:∀ (l:Ye) (cs:List Int) (H':Hp),aj H H'->H l=none->H' l=some (.lst (cs.map V.int))->cs.length=t.toNat->nA (f * u) (f * d) cs->Q (.ref l) H')
inductive HJ(H:Hp)(a b l:Ye)(u d f n:Int)(i:Nat)(σ:St)(H1:Hp):Prop
 | mk(cs:List Int)(y:Int)(d4 d5:Option V)(_:σ=[some (.ref a),some (.ref b),some (.int n),some (.ref l),d4,d5])(_:aj H H1)(_:H1 l=some (.lst ((cs++[y]).map V.int)))(_:cs.length=i)(_:nA (f * u) (f * d) (cs++[y]))
theorem SU(T:Tx K mg):Ok P w base 2 T.sN (SS K):=by
 refine bb rL ?_;rintro _ _ _ _ H _ _ _ hr ⟨a,b,ns,e,t,u,d,m,f,n,rfl,hS,hn,hb,sh,q⟩;refine⟨_,(au (aE 3 rL.nd (ck (ae (aa 2) ag)))
  (au (cW YM rfl (mh rfl T.dg (ae af (ae (ax (aa 1) af) ag))) (cp 4 rL.nd) (au (aE 5 rL.nd (aH dA (aF (cJ T) hr (ae (aa 0) (ae (aH bE af (aa 4)) (ae af (ae (aH bE (aH bE (ax (aa 1) af) (ax (aa 1) af)) af) ag))))) (ax (aa 1) af)))
    (ay (fD (i9 YW ZT ZU qk (aa 3) (ae (aH bE (ax (aa 3) (gG gU af)) (aH nc (ax (aa 1) af) (aa 5))) ag))))))
  (ay (aA (aa 3))))),?_⟩
 obtain⟨-,⟨t1,t2⟩,-,⟨u1,u2⟩,⟨d1,d2⟩,-,f1,f2⟩:=id sh;refine aD (λσ H1=>∃ l,σ=[some (.ref a),some (.ref b),some (.int n),some (.ref l),none,none]/\aj H H1/\H l=none/\H1 l=some (.lst ([n].map V.int))) (λN hN=>?_) ?_
 .rfl';exact⟨by decide,λl hl=>hN _ _ ⟨l,rfl,ao hl,hl,ar⟩⟩
 rintro _ yR σ H1 ⟨l,rfl,s1,f0,hl⟩;subst yR;refine aD (HJ H a b l u d f n (t-1).toNat) (λN hN=>?_) ?_
 .rfl';refine ak (dQ s1 hb) (v:=.int t) rfl ?_;rfl';refine⟨by lia,by lia,kY (HJ H a b l u d f n) ⟨[],n,_,_,rfl,s1,hl,rfl,λk h=>absurd h (by show ¬ k+1<1;lia)⟩ ?_ (λσ H' h=>hN _ _ h)⟩;rintro i σ H2 hi ⟨cs,y,d4,d5,rfl,s2,aU,bh,bV⟩;rfl';refine ak (dQ s2 hb) (v:=.int u) rfl (ak (dQ s2 hb) (v:=.int d) rfl ?_);rfl';refine⟨a,ns,_,_,_,rfl,s2.seq hS,hn,by lia,by lia,by lia,λp p1 p2=>?_⟩;rfl';refine ak (dQ s2 hb) (v:=.int d) rfl ?_;rfl';refine⟨.inl ⟨rfl,_,ai.of aU⟩,bH (ai.of aU) (v:=.int y) (by rw[Zg];exact wX _ _) (ak (dQ s2 hb) (v:=.int f) rfl ?_)⟩;rfl';have m1:=abH (show p-d<=u by lia) (show 0<=f by lia);have m2:=abH (show -d<=p-d by lia) (show 0<=f by lia);rw[Int.mul_neg] at m2;refine⟨mL (by lia) (by lia),_,aU,Ze (by rw[XY,Yh,bh];show i+1<=20;lia:_<=20) (by decide),cs++[y],y+f * (p-d),_,_,rfl,jb f0 s2,?_,by rw[Yh,bh];rfl,bV.snoc (by lia) (by lia)⟩;rw[ar,Zg (l₁:=cs++[y])];rfl
 rintro _ yR σ H2 ⟨cs,y,d4,d5,rfl,s2,aU,bh,bV⟩;subst yR;rfl';exact q l _ H2 s2 f0 aU (by rw[Yh,bh];show (t-1).toNat+1=_;lia) bV
inductive SV(K:XW)(vs:List V)(H:Hp)(Q:VK)(aL:XK):Prop
 | mk(a:Ye)(ns:List Int)(k n f:Int)(_:vs=[.ref a,.int k,.int n,.int f])(_:ai K H a (ns.map V.int))(_:gN ns)(_:(-900000<=k/\k<=900000))(_:(1<=f/\f<=1000000000000000000000000000000))(_:∀ (p:Ye) (lo hi:En) (H':Hp),aj H H'->H' p=some (.tup [ev lo,ev hi])->aW lo hi=false->hold lo hi n=true->Q (.ref p) H')
inductive AX(H:Hp)(a:Ye)(k n f:Int)(σ:St)(H1:Hp):Prop
 | mk(lo hi:En)(o:Int)(_:σ=[some (.ref a),some (.int k),some (.int n),some (.int f),some (ev lo),some (ev hi),some (.int o)])(_:H1=H)(_:bp (lo,hi) n)
theorem SW(T:Tx K mg):Ok P w base 2 T.sO (SV K):=by
 refine bb nq ?_;rintro _ _ _ _ H _ _ _ hr ⟨a,ns,k,n,f,rfl,hS,hn,hk,⟨f1,f2⟩,q⟩;refine⟨_,(au (aE 4 nq.nd (aH dA (aH dA (aa 2) (aH nc (aa 3) (aF (cJ T) hr (ae (aa 0) (ae (aa 1) (ae af (ae af ag))))))) (aF (cJ T) hr (ae (aa 0) (ae (aa 1) (ae af (ae af ag)))))))
  (au (aE 5 nq.nd (aH bE (aa 2) (aH nc (aa 3) (aF (cJ T) hr (ae (aa 0) (ae (aa 1) (ae af (ae af ag))))))))
  (au (aE 6 nq.nd (aF (cJ T) hr (ae (aa 0) (ae (aa 1) (ae af (ae af ag))))))
  (au (aK (bZ (aa 6) af) (ay (aE 4 nq.nd bq)) aJ)
  (au (aK (bZ (aa 6) af) (ay (aE 5 nq.nd bq)) aJ)
  (ay (aA (aT (ae (aa 4) (ae (aa 5) ag)))))))))),?_⟩
 refine aD (λσ H1=>∃ lo:Int,σ=[some (.ref a),some (.int k),some (.int n),some (.int f),some (.int lo),none,none]/\H1=H/\lo<=n) (λN hN=>?_) ?_
 .rfl';refine⟨a,ns,_,_,_,rfl,hS,hn,by lia,by lia,by lia,λp p1 p2=>?_⟩;rfl';have:=aaz (show 0<=f by lia) p1;refine⟨mL (by lia) (by lia),?_⟩;refine⟨a,ns,_,_,_,rfl,hS,hn,by lia,by lia,by lia,λr r1 r2=>?_⟩;rfl';exact hN _ _ ⟨_,rfl,rfl,by lia⟩
 rintro _ yR σ H1 ⟨lo,rfl,rfl,h1⟩;subst yR;refine aD (λσ H2=>∃ hi:Int,σ=[some (.ref a),some (.int k),some (.int n),some (.int f),some (.int lo),some (.int hi),none]/\H2=H1/\n<=hi) (λN hN=>?_) ?_
 .rfl';refine⟨a,ns,_,_,_,rfl,hS,hn,by lia,by lia,by lia,λp p1 p2=>?_⟩;rfl';have:=aaz (show 0<=f by lia) p1;exact⟨mL (by lia) (by lia),hN _ _ ⟨_,rfl,rfl,by lia⟩⟩
 rintro _ yR σ H ⟨hi,rfl,rfl,h2⟩;subst yR;refine aD (AX H a k n f) (λN hN=>?_) ?_
 .rfl';refine⟨a,ns,_,_,_,rfl,hS,hn,by lia,by lia,by lia,λp p1 p2=>?_⟩;rfl';exact hN _ _ ⟨some lo,some hi,p,rfl,rfl,λx z=>by cases z;exact h1,λy z=>by cases z;exact h2⟩
 rintro _ yR σ H1 ⟨lo,hi,o,rfl,rfl,bI⟩;subst yR;refine aD (AX H1 a k n f) (λN hN=>?_) ?_
 .rfl';exact aQ (λ_=>hN _ _ ⟨none,hi,o,rfl,rfl,λx z=>(nomatch z),bI.2⟩) λ_=>hN _ _ ⟨lo,hi,o,rfl,rfl,bI⟩
 rintro _ yR σ H ⟨lo,hi,o,rfl,rfl,bI⟩;subst yR;refine aD (AX H a k n f) (λN hN=>?_) ?_
 .rfl';exact aQ (λ_=>hN _ _ ⟨lo,none,o,rfl,rfl,bI.1,λx z=>(nomatch z)⟩) λ_=>hN _ _ ⟨lo,hi,o,rfl,rfl,bI⟩
 rintro _ yR σ H1 ⟨lo,hi,o,rfl,rfl,bI⟩;subst yR;rfl';refine⟨a9,λp hp=>q p lo hi _ (ao hp) ar ?_ (EI.mp bI)⟩;rcases lo with _|x<;>rcases hi with _|y
 .rfl
 .rfl
 .rfl
 .have h1:=bI.1 x rfl;have h2:=bI.2 y rfl;simp only[aW];exact decide_eq_false (by lia)
theorem SX(h:r∈gf tb s w):r∈tb∨r.2=w:=by
 unfold gf at h;split at h
 .obtain⟨x,hx,rfl⟩:=Yc.mp h;by_cases e:x.1=s
  .rw[if_pos e];exact .inr rfl
  .rw[if_neg e];exact .inl hx
 .rcases Yz.mp h with z|z
  .exact .inl z
  .rw[YG.mp z];exact .inr rfl
inductive hU(H:Hp)(v:V)(w:Ye)(e t u d m:Int)(tb:Tb):Prop
 | mk(r:Ye)(_:v = .ref r)(_:H r=some (.tup [.int e,.int t,.int u,.int d,.int m,.ref w]))(_:TabAt H w tb)
theorem hU.same(h:hU H v w e t u d m tb)(s:aj H H'):hU H' v w e t u d m tb:=let ⟨r,e,a,b⟩:=h;⟨r,e,s _ _ a,b.same s⟩
inductive HK(H:Hp)(e t:Int)(q:Ye)(n:Int)(H1:Hp):Prop
 | mk(tb:Tb)(_:aj H H1)(_:H q=none)(_:TabAt H1 q tb)(_:bX e t tb)(_:(tb.length:Int)<=n)(_:∀ r∈tb,aW r.2.1 r.2.2=false)
inductive SY(K:XW)(vs:List V)(H:Hp)(Q:VK)(aL:XK):Prop
 | mk(a b c:Ye)(ns cs:List Int)(e t u d m f:Int)(_:vs=[.ref a,.ref b,.ref c])(_:ai K H a (ns.map V.int))(_:gN ns)(_:ah K H b (pw e t u d m f))(_:nz e t u d m f)(_:ai K H c (cs.map V.int))(_:cs.length=t.toNat)(_:∀ (v:V) (w:Ye) (tb:Tb) (H':Hp),aj H H'->H w=none->hU H' v w e t (f * u) (f * d) m tb->bX e t tb->tb.length<=24->(∀ r∈tb,aW r.2.1 r.2.2=false)->Q v H')
def AY(σ0:Option V->Option V->Option V->Option V->Option V->St)(H:Hp)(e t:Int)(q:Ye)(n:Nat->Int)(i:Nat)(σ:St)(H1:Hp):Prop:=∃ e1 e2 e3 e4 e5,σ=σ0 e1 e2 e3 e4 e5/\HK H e t q (n i) H1
theorem HL(h:nz e t u d m f):e * t<=24:=by
 obtain⟨he,ht,h,-⟩:=h;rcases h with ⟨h1,h2⟩|⟨h1,h2⟩|⟨h1,h2⟩
 .exact aas (ack h1 h2 (by lia) (by decide)) (by decide)
 .exact aas (ack h1 h2 (by lia) (by decide)) (by decide)
 .exact ack h1 h2 (by lia) (by decide)
theorem S0(T:Tx K mg):Ok P w base 3 T.sP (SY K):=by
 refine bb iH ?_;rintro _ _ _ s H _ _ _ hr ⟨a,b,c,ns,cs,e,t,u,d,m,f,rfl,hS,hn,hb,sh,hc,bh,q⟩;refine⟨_,(au (aE 3 iH.nd EE)
  (au (aE 4 iH.nd (aF (cJ T) hr (ae (aa 0) (ae af (ae af (ae (aH bE (ax (aa 1) af) af) ag))))))
  (au (cW YM rfl (fE rfl T.dg (ae (ax (aa 1) af) ag)) (cp 5 iH.nd) (ay (cW YM rfl (fE rfl T.dg (ae (ax (aa 1) af) ag)) (cp 6 iH.nd) (au (aE 7 iH.nd (aH bE (aH bE af (aH nc af (aa 5))) (aa 6)))
    (au (aE 8 iH.nd (ax (aa 2) (aa 6)))
    (au (aK (ng (aH oY (aH bE (aa 5) (aF (cJ T) hr (ae (aa 0) (ae af (ae af (ae af ag)))))) (ax (aa 1) af)) (aa 4)) (ay (aE 8 iH.nd (aH bE (aa 8) (aH nc (ax (aa 1) af) (aH dA (aF (cJ T) hr (ae (aa 0) (ae (aa 7) (ae af (ae af ag))))) af))))) aJ)
    (au (aE 9 iH.nd (eZ nT (aF (cJ T) hr (ae (aa 0) (ae (aa 7) (ae af (ae af ag))))) af (c8 _)))
    (au (aK (bZ (ax (aa 1) af) af) (ay (aE 9 iH.nd (eZ (gT pZ) (aH oY (aH bE (aH bE (aa 5) (aa 6)) (aF (cJ T) hr (ae (aa 0) (ae af (ae af (ae af ag)))))) af) af (c8 _)))) aJ)
    (ay (aK (cB (cz (aa 9))) (ay (Ep (gb hr) (aa 3) (aT (ae (aa 5) (ae (aa 6) ag))) (aF (SW T) hr (ae (aa 0) (ae (aa 7) (ae (aa 8) (ae (ax (aa 1) af) ag))))) rfl)) aJ))))))))))
  (ay (aA (aT (ae (ax (aa 1) af) (ae (ax (aa 1) af) (ae (aH nc (ax (aa 1) af) (ax (aa 1) af)) (ae (aH nc (ax (aa 1) af) (ax (aa 1) af)) (ae (ax (aa 1) af) (ae (aa 3) ag)))))))))))),?_⟩
 obtain⟨⟨e1,e2⟩,⟨t1,t2⟩,-,⟨u1,u2⟩,⟨d1,d2⟩,⟨m1,m2⟩,hf⟩:=id sh;have et:=HL sh;refine aD (λσ H1=>∃ w,σ=[some (.ref a),some (.ref b),some (.ref c),some (.ref w),none,none,none,none,none,none]/\HK H e t w 0 H1) (λN hN=>?_) ?_
 .rfl';exact λw hV=>hN _ _ ⟨w,rfl,[],ao hV,hV,⟨[],ar,trivial⟩,bX.nil,Y6 _,λ_ h=>(nomatch h)⟩
 rintro _ yR σ H1 ⟨w,rfl,hw⟩;subst yR;obtain⟨_,s1,_⟩:=id hw;refine aD (λσ H2=>∃ wr:Int,σ=[some (.ref a),some (.ref b),some (.ref c),some (.ref w),some (.int wr),none,none,none,none,none]/\H2=H1) (λN hN=>?_) ?_
 .rfl';refine ak (dQ s1 hb) (v:=.int m) rfl ?_;rfl';refine⟨a,ns,_,_,_,rfl,s1.seq hS,hn,by lia,by lia,by lia,λp p1 p2=>?_⟩;exact hN _ _ ⟨_,rfl,rfl⟩
 rintro _ yR σ H2 ⟨wr,rfl,rfl⟩;subst yR;refine aD (AY (λe1 e2 e3 e4 e5=>[some (.ref a),some (.ref b),some (.ref c),some (.ref w),some (.int wr),e1,e2,e3,e4,e5]) H e t w (λ_=>e * t) 0) (λN hN=>?_) ?_
 .rfl';refine ak (dQ s1 hb) (v:=.int e) rfl ?_;rfl';refine⟨by lia,by lia,kY (AY (λe1 e2 e3 e4 e5=>[some (.ref a),some (.ref b),some (.ref c),some (.ref w),some (.int wr),e1,e2,e3,e4,e5]) H e t w λi=>(i:Int) * t) ⟨_,_,_,_,_,rfl,by simpa using hw⟩ ?_ (λσ H' h=>hN _ _ ?_)⟩
  .rintro i σ H5 hi ⟨e1,e2,e3,e4,e5,rfl,HM⟩;obtain⟨_,s5,_⟩:=id HM;rfl';refine ak (dQ s5 hb) (v:=.int t) rfl ?_;rfl';refine⟨by lia,by lia,kY (AY (λe2 e3 e4 e5 _=>[some (.ref a),some (.ref b),some (.ref c),some (.ref w),some (.int wr),some (.int (0+(i:Int))),e2,e3,e4,e5]) H e t w λj=>(i:Int) * t+j) ⟨_,_,_,_,none,rfl,by simpa using HM⟩ ?_ ?_⟩
   .rintro j σ H6 hj ⟨e2,e3,e4,e5,_,rfl,S9⟩;obtain⟨tb,s6,hV,⟨kvs,hk,hT⟩,az,iS,dD⟩:=id S9;have bi:(i:Int)<e:=by lia
    have bj:(j:Int)<t:=by lia
    have tl:=hT.len;show tY _ _ _ _ _;refine aD (λσ H7=>∃ kk:Int,σ=[some (.ref a),some (.ref b),some (.ref c),some (.ref w),some (.int wr),some (.int (0+(i:Int))),some (.int (0+(j:Int))),some (.int kk),e4,e5]/\H7=H6/\0<=kk/\kk<=1000) (λN hN=>?_) ?_
    .rfl';exact⟨mL (by lia) (by lia),hN _ _ ⟨_,rfl,rfl,by lia,by lia⟩⟩
    rintro _ yR σ H7 ⟨kk,rfl,rfl,k1,k2⟩;subst yR;refine aD (λσ H8=>∃ nn:Int,σ=[some (.ref a),some (.ref b),some (.ref c),some (.ref w),some (.int wr),some (.int (0+(i:Int))),some (.int (0+(j:Int))),some (.int kk),some (.int nn),e5]/\H8=H7) (λN hN=>?_) ?_
    .rfl';exact bH (s6.seq hc) (int_at (by lia) (by lia)) (hN _ _ ⟨_,rfl,rfl⟩)
    rintro _ yR σ H6 ⟨nn,rfl,rfl⟩;subst yR;refine aD (λσ H8=>∃ nn:Int,σ=[some (.ref a),some (.ref b),some (.ref c),some (.ref w),some (.int wr),some (.int (0+(i:Int))),some (.int (0+(j:Int))),some (.int kk),some (.int nn),e5]/\H8=H6) (λN hN=>?_) ?_
    .rfl';refine⟨a,ns,_,_,_,rfl,s6.seq hS,hn,by lia,by lia,by lia,λp p1 p2=>?_⟩;rfl';refine ak (dQ s6 hb) (v:=.int e) rfl ?_;rfl';refine⟨by lia,aQ (λ_=>?_) λ_=>hN _ _ ⟨nn,rfl,rfl⟩⟩;refine ak (dQ s6 hb) (v:=.int f) rfl ?_;refine⟨a,ns,_,_,_,rfl,s6.seq hS,hn,by lia,by lia,by lia,λr r1 r2=>?_⟩;rfl';exact⟨mL (by lia) (by lia),hN _ _ ⟨_,rfl,rfl⟩⟩
    rintro _ yR σ H7 ⟨nn,rfl,rfl⟩;subst yR;refine aD (λσ H8=>∃ o:Bool,σ=[some (.ref a),some (.ref b),some (.ref c),some (.ref w),some (.int wr),some (.int (0+(i:Int))),some (.int (0+(j:Int))),some (.int kk),some (.int nn),some (.bl o)]/\H8=H7) (λN hN=>?_) ?_
    .rfl';refine⟨a,ns,_,_,_,rfl,s6.seq hS,hn,by lia,by lia,by lia,λp p1 p2=>?_⟩;rfl';exact hN _ _ ⟨_,rfl,rfl⟩
    rintro _ yR σ H6 ⟨o,rfl,rfl⟩;subst yR;refine aD (λσ H8=>∃ o:Bool,σ=[some (.ref a),some (.ref b),some (.ref c),some (.ref w),some (.int wr),some (.int (0+(i:Int))),some (.int (0+(j:Int))),some (.int kk),some (.int nn),some (.bl o)]/\H8=H6) (λN hN=>?_) ?_
    .rfl';refine ak (dQ s6 hb) (v:=.int t) rfl ?_;rfl';refine aQ (λ_=>?_) λ_=>hN _ _ ⟨o,rfl,rfl⟩;refine⟨a,ns,_,_,_,rfl,s6.seq hS,hn,by lia,by lia,by lia,λp p1 p2=>?_⟩;rfl';exact hN _ _ ⟨_,rfl,rfl⟩
    rintro _ yR σ H7 ⟨o,rfl,rfl⟩;subst yR;have le:(i:Int) * t+(j:Int)<=(i:Int) * t+((j+1:Nat):Int):=by lia
    have bm:0<=(i:Int) * t/\(i:Int) * t<=6 * 12:=⟨aaz (by lia) (by lia),ack (by lia) t2 (by lia) (by decide)⟩
    cases o with
    | true =>
     rfl';exact⟨_,_,_,_,none,rfl,tb,s6,hV,⟨kvs,hk,hT⟩,az,aas iS le,dD⟩
    | false =>
     rfl';refine ak (dQ s6 hb) (v:=.int f) rfl ?_;rfl';refine⟨a,ns,_,_,_,rfl,s6.seq hS,hn,by lia,hf,λwp lo hi H8 s7 Tc Td _=>⟨a9,λk Te=>?_⟩⟩;have u:=ao (o:=.tup [.int (0+(i:Int)),.int (0+(j:Int))]) Te;have HN:=(s7.trans u) _ _ hk;refine⟨_,oE.t (k:=dX (0+(i:Int)) (0+(j:Int))) HN ar (Ze (by lia:kvs.length<=100) (by decide)),_,_,_,_,none,rfl,gf tb (0+(i:Int),0+(j:Int)) (lo,hi),jb hV (s6.trans (s7.trans u)),hV,⟨_,ar,?_⟩,az.put ⟨⟨by show 0<=0+(i:Int);lia,by show 0+(i:Int)<e;lia⟩,by show 0<=0+(j:Int);lia,by show 0+(j:Int)<t;lia⟩,?_,λr hr=>?_⟩
     .have F:Fr _ (upd _ w (.dT (putK kvs (dX (0+(i:Int)) (0+(j:Int))) (.ref wp)))):=Ow HN;exact bw.put (s:=(0+(i:Int),0+(j:Int))) (w:=(lo,hi)) (hT.imp λv a b z=>(aI.same z (s7.trans u)).fr F) (aI.fr ⟨wp,rfl,u _ _ Tc⟩ F)
     .have:=Oy tb (0+(i:Int),0+(j:Int)) (lo,hi);show ((gf tb (0+(i:Int),0+(j:Int)) (lo,hi)).length:Int)<=(i:Int) * t+((j+1:Nat):Int);lia
     .rcases SX hr with z|z
      .exact dD r z
      .rw[z];exact Td
   .rintro σ H6 ⟨e2,e3,e4,e5,_,rfl,tb,s6,hV,hT,az,iS,dD⟩;refine⟨_,_,_,_,_,rfl,tb,s6,hV,hT,az,?_,dD⟩;have iS:(tb.length:Int)<=(i:Int) * t+((t.toNat:Nat):Int):=iS;show (tb.length:Int)<=((i+1:Nat):Int) * t;rw[Int.natCast_add,af2];lia
  .obtain⟨e1,e2,e3,e4,e5,rfl,tb,s6,hV,hT,az,iS,dD⟩:=h;refine⟨_,_,_,_,_,rfl,tb,s6,hV,hT,az,?_,dD⟩;have iS:(tb.length:Int)<=((e.toNat:Nat):Int) * t:=iS;rw[ZL (by lia)] at iS;exact iS
 rintro _ yR σ H5 ⟨e1,e2,e3,e4,e5,rfl,tb,s5,hV,hT,az,iS,dD⟩;subst yR;rfl';refine ak (dQ s5 hb) (v:=.int e) rfl (ak (dQ s5 hb) (v:=.int t) rfl (ak (dQ s5 hb) (v:=.int f) rfl (ak (dQ s5 hb) (v:=.int u) rfl ?_)));rfl';refine⟨mL (by lia) (by lia),ak (dQ s5 hb) (v:=.int f) rfl (ak (dQ s5 hb) (v:=.int d) rfl ?_)⟩;rfl';refine⟨mL (by lia) (by lia),ak (dQ s5 hb) (v:=.int m) rfl ⟨by decide,λr hr=>?_⟩⟩;exact q (.ref r) w tb _ (s5.trans (ao hr)) hV ⟨r,rfl,ar,hT.same (ao hr)⟩ az (by lia) dD
structure di(B:Ye)(H:Hp)(x:Ye)(e t u d m:Int)(p:Ye)(tb:Tb):Prop where
 ob:∃ dx,H x=some (.ins B dx (AV e t u d m p))
 tb:TabAt H p tb
theorem di.same{B:Ye}{H H':Hp}{x p:Ye}{e t u d m:Int}{tb:Tb}(h:di B H x e t u d m p tb)(s:aj H H'):di B H' x e t u d m p tb:=let ⟨⟨dx,a⟩,b⟩:=h;⟨⟨dx,s _ _ a⟩,b.same s⟩
inductive Tf(B:Ye)(vs:List V)(H:Hp)(Q:VK)(aL:XK):Prop
 | mk(x p:Ye)(e t u d m:Int)(tb:Tb)(_:vs=[.ref x])(_:di B H x e t u d m p tb)(_:(tb.map (·.1)).Nodup)(_:tb.length<64)(_:∀ l xs H',aj H H'->H l=none->H' l=some (.lst xs)->aw (jr H') xs (lr tb)->Q (.ref l) H')
theorem HP(T:Tx K mg):Om P w mg base 1 T.kF (Tf T.aN):=by
 refine kA Hc ?_;rintro _ _ _ s H _ Q _ hr ⟨x,p,e,t,u,d,m,tb,rfl,⟨⟨dx,hx⟩,kvs,hp,hT⟩,hn,dw,q⟩;refine⟨_,(ay (aA (cE (bz.mk (fr:=[0]) (ys:=["self"]) rfl (by decide +kernel) rfl (by decide +kernel) rfl rfl (.cons rfl .nil) (.cons rfl rfl rfl rfl .nil) (by decide) rfl) rfl (cu (aY (Ot rfl) (by rfl) T.Hm C5 (ae (bS rfl (aa 0) rfl) ag))) (λC s2 H2 ex pn=>⟨cD,(aT (ae (b0 (K:=K) (aa 0) af) (ae (b0 (K:=K) (aa 0) af) (ae (EF (gb hr) (bS (K:=K) rfl (aa 1) rfl) (aa 0) (λ_ _=>rfl)) ag))))⟩)))),?_⟩;rfl';refine⟨_,_,_,hx,T.bO,T.pq,_,rfl,p,rfl,kvs,hp,jq tb,Oz hT,OA,by rw[hT.len];exact dw,λl ys hl hk=>?_⟩;have PS:=OB hT hk;have s1:=ao (o:=.lst (dr (jq tb) .non ys)) hl;have L1:upd H l (.lst (dr (jq tb) .non ys)) l=some (.lst (dr (jq tb) .non ys)):=ar;generalize upd H l (.lst (dr (jq tb) .non ys))=H1 at s1 L1 ⊢;refine⟨⟨_,ai.of L1⟩,bR eo (X5 (by rw[PS.len,mO];exact abx dw:_<=64) (by decide)) (eB (R:=λH x (r:P2 × S2)=>bD H x r.1) (R':=λH y (r:P2 × S2)=>jr H y r) (f:=λr=>r) (bs:=[]) (λ_ _ _ _ s r=>bD.same r s) (λ_ _ _ _ s r=>jr.same r s) (PS.imp λx r z=>bD.same z s1) trivial (λH' s'=>ai.of (s' _ _ L1)) (λx r _ H' s' b5 Q h=>?_) (λx r b5 H' s' h0 Q h=>?_) λH2 zs s2 hz=>?_)⟩
 .rfl';exact h
 .obtain⟨a,rfl,ha⟩:=id h0;have S:=s1.trans s';have Tg:=hT.imp λv a b z=>aI.same z S;obtain⟨w,hw,iw⟩:=(Tg.val r.1).2 _ (uY hn (qK b5));rfl';refine ak (ah.of ha) rfl (ak (ah.of ha) rfl ⟨_,_,_,S _ _ hx,T.bO,T.pq,_,rfl,p,rfl,w,?_,?_⟩)
  .rw[<- hw];exact fb.t (k:=dX r.1.1 r.1.2) (S _ _ hp) ha
  .exact⟨by decide,λz hz=>h _ _ (ao hz) ⟨z,w,rfl,ar,aI.same iw (ao hz)⟩⟩
 rw[Yj,aeF] at hz;exact λl2 aU=>q l2 zs _ (s1.trans (s2.trans (ao aU))) ((s1.trans s2).free aU) ar (hz.imp λx r z=>jr.same z (ao aU))
inductive Th(K:XW)(vs:List V)(H:Hp)(Q:VK)(aL:XK):Prop
 | mk(a:Ye)(xs:List V)(ss:List S2)(_:vs=[.ref a])(_:ai K H a xs)(_:cv H xs ss)(_:xs.length<=1000)(_:∀ v H',aj H H'->dW H' v (eE (none,none) ss)->Q v H')
inductive Ti(K:XW)(H:Hp)(a:Ye)(xs:List V)(ss:List S2)(i:Nat)(σ:St)(H1:Hp):Prop
 | mk(v:V)(e:Option V)(_:σ=[some (.ref a),some v,e])(_:aj H H1)(_:aI H1 v (aZ (none,none) (ss.take i)).1 (aZ (none,none) (ss.take i)).2)(_:aW (aZ (none,none) (ss.take i)).1 (aZ (none,none) (ss.take i)).2=false)
theorem AZ(T:Tx K mg):Ok P w base 3 T.rQ (Th K):=by
 refine bb rB ?_;rintro _ _ _ _ H _ _ _ hr ⟨a,xs,ss,rfl,hS,hP,hn,q⟩;refine⟨_,(au (aE 1 rB.nd (aT (ae bq (ae bq ag))))
  (au (cW YM rfl (cu (aa 0)) (cp 2 rB.nd) (au (aE 1 rB.nd (aF (AU T) hr (ae (aa 1) (ae (aa 2) ag))))
    (ay (aK (cS (aa 1)) (ay (aA bq)) aJ))))
  (ay (aA (aa 1))))),?_⟩
 have hA:=j7.mp hP;have hl:=hA.len;rfl';refine⟨a9,λp hp=>?_⟩;have s0:=ao (o:=.tup [.non,.non]) hp;refine⟨⟨_,s0.seq hS⟩,kZ (xs:=xs) (Ti K H a xs ss) ⟨_,_,rfl,s0,⟨p,rfl,ar⟩,rfl⟩ ?_ ?_ ?_⟩
 .rintro i σ H1 _ ⟨_,_,_,s1,_⟩;exact s1.seq hS
 .rintro i x σ H1 hx ⟨v,e,rfl,s1,hv,hc⟩;obtain⟨w,hw,r⟩:=hA.get hx;have e1:=OE (e:=(none,none)) hw;rfl';refine⟨v,x,_,_,w.1,w.2,rfl,hv,r.same s1,λy H2 s2 hm=>?_⟩;have lB:D7 H2 y (aZ (none,none) (ss.take (i+1))).1 (aZ (none,none) (ss.take (i+1))).2:=by rw[e1];exact hm
  cases hk:aW (aZ (none,none) (ss.take (i+1))).1 (aZ (none,none) (ss.take (i+1))).2 with
  | true =>
   have ey:=lB.1 hk;subst ey;rfl';refine q _ _ (s1.trans s2) ?_;unfold eE;rw[if_pos (OD hk)];rfl
  | false =>
   have hy:=lB.2 hk;obtain⟨t,rfl,ht⟩:=id hy;rfl';exact⟨_,_,rfl,s1.trans s2,hy,hk⟩
 .rintro σ H1 ⟨v,e,rfl,s1,hv,hc⟩;rfl';rw[hl,Zr] at hv hc;refine q _ _ s1 ?_;unfold eE;rw[if_neg (by rw[hc];simp)];exact hv
inductive Tj(B:Ye)(vs:List V)(H:Hp)(Q:VK)(aL:XK):Prop
 | mk(x p:Ye)(e t u d m i:Int)(k:Str)(kvs:List (List Key × V))(_:vs=[.ref x,.str k,.int i])(_:hJ B H x e t u d m p kvs)(_:Q (.bl (hasB t k i)) H)
theorem Tn(T:Tx K mg):Ok P w base 2 T.rS (Tj T.aN):=by
 refine bb GG ?_;rintro _ _ _ _ _ _ _ _ hr ⟨x,p,e,t,u,d,m,i,k,kvs,rfl,hb,q⟩;refine⟨_,(au (aK (bZ (aa 1) br) (ay (aA (gp (i4 (aa 0) T.bO T.tf (tu T) (hr.mono (by decide)) T.gZ.b .nil bC (ae (aa 2) ag)) (gD (i4 (aa 0) T.bO T.tf (tu T) (hr.mono (by decide)) T.gZ.b .nil bC (ae (aH bE (aa 2) af) ag)))))) aJ)
  (ay (aA (gp (eZ nT (aa 1) br (c8 _)) (gD (i4 (aa 0) T.bO T.tf (tu T) (hr.mono (by decide)) T.gZ.b .nil bC (ae (aa 2) ag))))))),?_⟩
 obtain⟨⟨dx,hx⟩,hp⟩:=id hb;unfold hasB at q;rfl'
 try refine⟨rfl,?_⟩
 by_cases hk:k = "step"
 .subst hk;rw[if_pos rfl] at q ⊢;refine⟨_,_,hx,rfl,x,p,e,t,u,d,m,i,kvs,rfl,hb,?_⟩;by_cases h1:0<=i/\i<t
  .rw[decide_eq_true h1] at q ⊢;rfl';refine⟨_,_,hx,rfl,x,p,e,t,u,d,m,_,kvs,rfl,hb,?_⟩;rw[acM] at q;exact q
  .rw[decide_eq_false h1] at q ⊢;rfl';exact q
 .rw[if_neg hk] at q;rw[if_neg hk]
  try refine⟨rfl,?_⟩
  by_cases gR:k = "at"
  .subst gR;rw[decide_eq_true rfl,acM] at q;rw[if_pos rfl];refine⟨_,_,hx,rfl,x,p,e,t,u,d,m,i,kvs,rfl,hb,?_⟩;exact q
  .rw[decide_eq_false gR,abv] at q;rw[if_neg λz=>gR (V.str.inj z)];exact q
inductive To(K:XW)(B C:Ye)(vs:List V)(H:Hp)(Q:VK)(E:XK):Prop
 | mk(x p b:Ye)(e t u d m:Int)(kvs:List (List Key × V))(xs:List V)(ps:List Pa)(_:vs=[.ref x,.ref b])(_:hJ B H x e t u d m p kvs)(_:ai K H b xs)(_:de H xs ps)(_:(¬ eF t ps->E (.ref C) none H))(_:(eF t ps->Q .non H))
inductive Tp(H:Hp)(x b:Ye)(t:Int)(ps:List Pa)(i:Nat)(σ:St)(H1:Hp):Prop
 | mk(e:Option V)(_:σ=[some (.ref x),some (.ref b),e])(_:H1=H)(_:eF t (ps.take i))
theorem HQ(T:Tx K mg):Ok P w base 3 T.iI (To K T.aN T.iQ):=by
 refine gV AG ?_;rintro _ _ _ _ H _ _ _ hr ⟨x,p,b,e,t,u,d,m,kvs,xs,ps,rfl,hb,hX,hP,q0,q⟩;refine⟨_,(ay (cW abu rfl (cu (aa 1)) (cp 2 AG.nd) (ay (aK (cB (cz (aF (Tn T) hr (ae (aa 0) (ae (ax (aa 2) af) (ae (ax (aa 2) af) ag)))))) (ay (jd je rfl T.Hr T.vU rfl (ae br ag))) aJ)))),?_⟩;have hl:=hP.len;rfl';refine⟨⟨_,hX⟩,kZ (xs:=xs) (Tp H x b t ps) ⟨_,rfl,rfl,λ_ h=>by simp at h⟩ ?_ ?_ ?_⟩
 .rintro i σ H1 _ ⟨_,_,rfl,_⟩;exact hX
 .rintro i y σ H1 hy ⟨e1,rfl,rfl,hk⟩;obtain⟨pa,eU,ta,qa,rfl,h1,h2⟩:=hP.get hy;rfl';refine ak (ah.of h1) rfl (ak (ah.of h1) rfl ?_);refine⟨x,p,e,t,u,d,m,pa.2.1,pa.1,kvs,rfl,hb,?_⟩;cases hc:hasB t pa.1 pa.2.1 with
  | true =>
   rfl';refine⟨_,rfl,rfl,λz hz=>?_⟩;rw[Zi,eU] at hz;rcases Yz.mp hz with h|h
   .exact hk z h
   .have:z=pa:=by simpa using h
    rw[this];exact hc
  | false =>
   rfl';refine⟨by decide,q0 λz=>?_⟩;rw[z pa (Yo eU)] at hc;cases hc
 .rintro σ H1 ⟨e1,rfl,rfl,hk⟩;rw[hl,Zr] at hk;rfl';exact q hk
inductive Tq(K:XW)(vs:List V)(H:Hp)(Q:VK)(aL:XK):Prop
 | mk(b:Ye)(xs:List V)(ps:List Pa)(k:Str)(t:Int)(_:vs=[.ref b,.str k,.int t])(_:ai K H b xs)(_:de H xs ps)(_:ps.length<=1000)(_:∀ l ys H',aj H H'->H l=none->H' l=some (.lst ys)->cv H' ys (sel ps k t)->Q (.ref l) H')
theorem HR(T:Tx K mg):Ok P w base 1 T.rT (Tq K):=by
 refine bb GH ?_;rintro _ _ _ s H _ Q _ _ ⟨b,xs,ps,k,t,rfl,hX,hP,hn,q⟩;refine⟨_,(ay (aA (cE (bz.mk (fr:=[1,2]) (ys:=["kind","turn"]) rfl (by decide +kernel) rfl (by decide +kernel) rfl rfl (.cons rfl (.cons rfl .nil)) (.cons rfl rfl rfl rfl (.cons rfl rfl rfl rfl .nil)) (by decide) rfl) rfl (cu (aa 0)) (λC s2 H2 ex pn=>⟨(gd (PW.pt (iW (bZ (b0 (K:=K) (aa 0) af) (aa 1)) (jM (bZ (b0 (K:=K) (aa 0) af) (aa 2)))))),(b0 (K:=K) (aa 0) af)⟩)))),?_⟩;have hl:=hP.len;rfl';refine⟨⟨_,hX⟩,bR eo (X5 (by lia:xs.length<=1000) (by decide)) (oI (R:=λx p=>iB H x p) (R':=λy (s:S2)=>aI H y s.1 s.2) (p:=jt k t) (f:=λp=>p.2.2) hX hP (λx p r Q h=>?_) (λx p _ r Q h=>?_) λzs hz=>?_)⟩
 .obtain⟨tt,u,rfl,ht,hu⟩:=r;unfold jt at h;rfl';refine ak (ah.of ht) rfl ?_;rfl'
  try refine⟨rfl,?_⟩
  by_cases hk:p.1=k
  .rw[decide_eq_true hk,acM] at h;rw[if_pos (by rw[hk])];refine ak (ah.of ht) rfl ?_;rfl';exact vy (Q:=λk=>Q k H) h
  .rw[decide_eq_false hk,abv] at h;rw[if_neg hk];exact h
 .obtain⟨tt,u,rfl,ht,hu⟩:=r;rfl';exact ak (ah.of ht) rfl (h _ ⟨u,rfl,hu⟩)
 .rw[Yj];intro l aU;exact q l zs _ (ao aU) aU ar (j7.mpr (hz.imp λ_ _ r=>r.same (ao aU)))
noncomputable def cb(u d:Int)(ps:List Pa)(n:Nat):List W2:=(Yn n).map λ(k:Nat)=>eE (none,none) ((some (-d),some u)::sel ps "step" (k:Int))
inductive Tr(K:XW)(B C:Ye)(vs:List V)(H:Hp)(Q:VK)(E:XK):Prop
 | mk(x p b:Ye)(e t u d m:Int)(kvs:List (List Key × V))(xs:List V)(ps:List Pa)(_:vs=[.ref x,.ref b])(_:hJ B H x e t u d m p kvs)(_:1<=t)(_:t<=12)(_:ai K H b xs)(_:de H xs ps)(_:ps.length<=900)(_:(¬ eF t ps->E (.ref C) none H))(_:(eF t ps->∀ l ys H',aj H H'->H l=none->H' l=some (.lst ys)->aw (dW H') ys (cb u d ps (t-1).toNat)->Q (.ref l) H'))
theorem HS(T:Tx K mg):Ok P w base 4 T.lK (Tr K T.aN T.iQ):=by
 refine gV AH ?_;rintro _ _ _ s H _ Q _ hr ⟨x,p,b,e,t,u,d,m,kvs,xs,ps,rfl,hb,t1,t2,hX,hP,hn,q0,q⟩;refine⟨_,(au (fD (bQ (HQ T) (hr.mono (by decide)) rfl T.iI.m T.iI.F.kp T.iI.b .nil dn (ae (aa 0) (ae (aa 1) ag))))
  (au (aE 2 AH.nd (ck (ae (aT (ae (gG gU (bS rfl (aa 0) rfl)) (ae (bS rfl (aa 0) rfl) ag))) ag)))
  (ay (aA (cE (bz.mk (fr:=[2,1]) (ys:=["own","claim"]) rfl (by decide +kernel) rfl (by decide +kernel) rfl rfl (.cons rfl (.cons rfl .nil)) (.cons rfl rfl rfl rfl (.cons rfl rfl rfl rfl .nil)) (by decide) rfl) rfl (fE rfl T.dg (ae (aH dA (bS rfl (aa 0) rfl) af) ag)) (λC s2 H2 ex pn=>⟨cD,(aF (AZ T) hr (ae (aH ja (aa 1) (aF (HR T) hr (ae (aa 2) (ae br (ae (aa 0) ag))))) ag))⟩)))))),?_⟩
 obtain⟨⟨dx,hx⟩,hp⟩:=id hb;rfl';refine⟨x,p,b,e,t,u,d,m,kvs,xs,ps,rfl,hb,hX,hP,q0,λhk=>?_⟩;rfl';refine⟨_,_,_,hx,T.bO,T.vS,_,rfl,_,_,_,hx,T.bO,T.vR,_,rfl,a9,λo ho=>⟨by decide,λl hl=>?_⟩⟩;have s1:=(ao (o:=.tup [.int (-d),.int u]) ho).trans (ao (o:=.lst [.ref o]) hl);have O1:aI (upd (upd H o (.tup [.int (-d),.int u])) l (.lst [.ref o])) (.ref o) (some (-d)) (some u):=⟨o,rfl,(ao hl) _ _ ar⟩
 have L1:(upd (upd H o (.tup [.int (-d),.int u])) l (.lst [.ref o])) l=some (.lst [.ref o]):=ar;generalize upd (upd H o (.tup [.int (-d),.int u])) l (.lst [.ref o])=H1 at s1 O1 L1 ⊢;refine⟨_,_,_,s1 _ _ hx,T.bO,T.kI,_,rfl,by lia,by lia,?_⟩;refine bR gK (by rw[XY,Yb];exact X5 (by lia:_<=12) (by decide)) (eB (R:=λ_ x (k:Nat)=>x=V.int ((0:Int)+k)) (R':=dW) (f:=λ(k:Nat)=>eE (none,none) ((some (-d),some u)::sel ps "step" (k:Int))) (λ_ _ _ _ _ h=>h) (λ_ _ _ _ s' h=>h.same s') (aw.fj _) (bs:=[]) trivial (λ_ _=>trivial) (λx k _ H2 s2 r Q h=>?_) (λx k _ H2 s2 r Q h=>?_) λH2 zs s2 hz=>?_)
 .rfl';exact h
 .subst r;have S2:=s1.trans s2;rfl';refine⟨b,xs,ps,"step",_,rfl,S2.seq hX,hP.same S2,by lia,λr ys H3 s3 _ R3 hR=>?_⟩;rw[aaN] at hR;rfl';have hlen:ys.length<=900:=by
   have:=(j7.mp hR).len;have h2:(sel ps "step" (k:Int)).length<=ps.length:=by unfold sel;rw[XY];exact YH _ _
   lia
  refine⟨[.ref o],s3 _ _ (s2 _ _ L1),ys,R3,X5 (by show 1+ys.length<=1000;lia) (by decide),λc hc=>?_⟩;have s4:=ao (o:=.lst ([.ref o]++ys)) hc;refine⟨c,_,(some (-d),some u)::sel ps "step" (k:Int),rfl,ai.of ar,⟨(O1.same (s2.trans s3)).same s4,?_⟩,by rw[Yh,Yx];lia,λv H5 s5 hv=>h _ _ ((s3.trans s4).trans s5) hv⟩;exact j7.mpr ((j7.mp hR).imp λ_ _ r=>r.same s4)
 .intro c hc;refine q hk c zs _ ((s1.trans s2).trans (ao hc)) ((s1.trans s2).free hc) ar ?_;rw[Yj] at hz;exact hz.imp λ_ _ r=>r.same (ao hc)
noncomputable def cO(ps:List Pa)(n:Nat):List W2:=(Yn n).map λ(k:Nat)=>eE (none,none) (sel ps "at" (k:Int))
inductive Ts(K:XW)(B C:Ye)(vs:List V)(H:Hp)(Q:VK)(E:XK):Prop
 | mk(x p b:Ye)(e t u d m:Int)(kvs:List (List Key × V))(xs:List V)(ps:List Pa)(_:vs=[.ref x,.ref b])(_:hJ B H x e t u d m p kvs)(_:1<=t)(_:t<=12)(_:ai K H b xs)(_:de H xs ps)(_:ps.length<=900)(_:(¬ eF t ps->E (.ref C) none H))(_:(eF t ps->∀ l ys H',aj H H'->H l=none->H' l=some (.lst ys)->aw (dW H') ys (cO ps t.toNat)->Q (.ref l) H'))
theorem Tt(T:Tx K mg):Ok P w base 4 T.lL (Ts K T.aN T.iQ):=by
 refine gV GI ?_;rintro _ _ _ s _ _ Q _ hr ⟨x,p,b,e,t,u,d,m,kvs,xs,ps,rfl,hb,t1,t2,hX,hP,hn,q0,q⟩;refine⟨_,(au (fD (bQ (HQ T) (hr.mono (by decide)) rfl T.iI.m T.iI.F.kp T.iI.b .nil dn (ae (aa 0) (ae (aa 1) ag))))
  (ay (aA (cE (bz.mk (fr:=[1]) (ys:=["claim"]) rfl (by decide +kernel) rfl (by decide +kernel) rfl rfl (.cons rfl .nil) (.cons rfl rfl rfl rfl .nil) (by decide) rfl) rfl (fE rfl T.dg (ae (bS rfl (aa 0) rfl) ag)) (λC s2 H2 ex pn=>⟨cD,(aF (AZ T) hr (ae (aF (HR T) hr (ae (aa 1) (ae br (ae (aa 0) ag)))) ag))⟩))))),?_⟩
 obtain⟨⟨dx,hx⟩,hp⟩:=id hb;rfl';refine⟨x,p,b,e,t,u,d,m,kvs,xs,ps,rfl,hb,hX,hP,q0,λhk=>?_⟩;rfl';refine⟨_,_,_,hx,T.bO,T.kI,_,rfl,_,rfl,by lia,by lia,?_⟩;refine bR gK (by rw[XY,Yb];exact X5 (by lia:_<=12) (by decide)) (eB (R:=λ_ x (k:Nat)=>x=V.int ((0:Int)+k)) (R':=dW) (f:=λ(k:Nat)=>eE (none,none) (sel ps "at" (k:Int))) (λ_ _ _ _ _ h=>h) (λ_ _ _ _ s' h=>h.same s') (aw.fj _) (bs:=[]) trivial (λ_ _=>trivial) (λx k _ H2 s2 r Q h=>?_) (λx k _ H2 s2 r Q h=>?_) λH2 zs s2 hz=>?_)
 .rfl';exact h
 .subst r;rfl';refine⟨b,xs,ps,"at",_,rfl,s2.seq hX,hP.same s2,by lia,λr ys H3 s3 _ R3 hR=>?_⟩;rw[aaN] at hR;rfl';have hlen:ys.length<=900:=by
   have:=(j7.mp hR).len;have h2:(sel ps "at" (k:Int)).length<=ps.length:=by unfold sel;rw[XY];exact YH _ _
   lia
  exact⟨r,ys,_,rfl,ai.of R3,hR,by lia,λv H5 s5 hv=>h _ _ (s3.trans s5) hv⟩
 .intro c hc;refine q hk c zs _ (s2.trans (ao hc)) (s2.free hc) ar ?_;rw[Yj] at hz;exact hz.imp λ_ _ r=>r.same (ao hc)
inductive Tu(vs:List V)(H:Hp)(Q:VK)(aL:XK):Prop
 | mk(v:V)(c:S2)(_:vs=[v])(_:lx H v c)(_:Q (.int (kf c)) H)
theorem HU(T:Tx K mg):Ok P w base 1 T.rY Tu:=by
 refine bb GU ?_;rintro _ _ _ _ _ _ _ _ _ ⟨v,⟨e1,e2⟩,rfl,⟨p,rfl,hp⟩,q⟩;refine⟨_,(au (aK (fg (ax (aa 0) af)) (ay (aA (ax (aa 0) af))) aJ)
  (au (aK (fg (ax (aa 0) af)) (ay (aA (ax (aa 0) af))) aJ)
  (ay (aA af)))),?_⟩
 rfl';refine ak (ah.of hp) rfl ?_;rcases e1 with _|x
 .rfl';refine ak (ah.of hp) rfl ?_;rcases e2 with _|y
  .rfl';exact q
  .rfl';exact ak (ah.of hp) rfl q
 .rfl';exact ak (ah.of hp) rfl q
theorem Tv(h:s∉tb.map (·.1)):gf tb s w=tb++[(s,w)]:=by unfold gf;rw[if_neg];intro z;obtain⟨r,hr,e⟩:=YZ.mp z;exact h (Yc.mpr ⟨r,hr,by simpa using e⟩)
theorem Tw{α β:Type}{f:α->β}{l:List α}{i:Nat}{a:α}(h:(l.map f).Nodup)(ha:l[i]?=some a):f a∉(l.take i).map f:=by
 have hi:=(X6.mp ha).1;have e:l=l.take i++a::l.drop (i+1):=by have:=aai i l;rw[Y3 hi] at this;rw[X0 hi] at ha;cases ha;exact this.symm
 intro hm;have h2:((l.take i).map f++f a::(l.drop (i+1)).map f).Nodup:=by rw[<- Ys,<- Zg,<- e];exact h
 exact (acC.mp h2).2.2 _ hm _ (.head _) rfl
def Tz(B:Ye)(H3:Hp)(v:V)(x p:Ye)(e t u d m:Int)(tb:Tb)(i:Nat)(σ:St)(H4:Hp):Prop:=(∃ e1,σ=[some v,some (.ref x),e1])/\oH [p] H3 H4/\di B H4 x e t u d m p (tb.take i)
inductive TC(K:XW)(B:Ye)(vs:List V)(H:Hp)(Q:VK)(aL:XK):Prop
 | mk(v:V)(w:Ye)(e t u d m:Int)(tb:Tb)(_:vs=[v])(_:hU H v w e t u d m tb)(_:dC e t u d m)(_:bX e t tb)(_:tb.length<=60)(_:(∀ r∈tb,aW r.2.1 r.2.2=false))(_:∀ (x p:Ye) (H':Hp),aj H H'->H x=none->H p=none->di B H' x e t u d m p tb->Q (.ref x) H')
theorem TF(T:Tx K mg):Ok P w base 4 T.sQ (TC K T.aN):=by
 refine bb vI ?_;rintro _ _ _ _ H _ _ _ hr ⟨_,w,e,t,u,d,m,tb,rfl,⟨wr,rfl,hwr,hT⟩,c7,az,eV,dD,q⟩;refine⟨_,(au (aE 1 vI.nd (uj T.AS (Sy T) (hr.mono (by decide)) rfl T.Sb T.nv.b .nil bC (ae (ax (aa 0) af) (ae (ax (aa 0) af) (ae (ax (aa 0) af) (ae (ax (aa 0) af) (ae (ax (aa 0) af) ag)))))))
  (au (E8 (cW YM rfl (E9 (ax (aa 0) af)) (cp 2 vI.nd) (ay (fD (i4 (aa 1) T.bO T.Sk (SG T) (hr.mono (by decide)) T.lQ.b .nil bC (ae (ax (aa 2) af) (ae (ax (aa 2) af) (ae (ax (uU (gb hr) (ax (aa 0) af) (aa 2) (λ_ _=>rfl)) af) (ae (ax (uU (gb hr) (ax (aa 0) af) (aa 2) (λ_ _=>rfl)) af) ag)))))))))
  (ay (aA (aa 1))))),?_⟩
 obtain⟨kvs,hk,hA⟩:=id hT;refine aD (λσ H1=>∃ x p,σ=[some (.ref wr),some (.ref x),none]/\aj H H1/\H x=none/\H p=none/\di T.aN H1 x e t u d m p []) (λN hN=>?_) ?_
 .rfl';refine ak (ah.of hwr) (v:=.int e) rfl (ak (ah.of hwr) (v:=.int t) rfl (ak (ah.of hwr) (v:=.int u) rfl (ak (ah.of hwr) (v:=.int d) rfl (ak (ah.of hwr) (v:=.int m) rfl λx dx hx TH eT=>?_))));refine⟨x,dx,e,t,u,d,m,rfl,ar,λz=>absurd c7 z,λ_ p H1 hp s1 X1 P1=>⟨rfl,?_⟩⟩;have M:=Oc (C:=T.aN) (fs:=[]) hx TH eT;have S1:aj H H1:=λb o e=>s1 b o (λz=>by rw[z,hx] at e;cases e) (M _ _ e);exact hN _ _ ⟨x,p,rfl,S1,hx,M.free hp,⟨⟨_,X1⟩,[],P1,trivial⟩⟩
 rintro _ yR σ H1 ⟨x,p,rfl,s1,fx,fp,hB⟩;subst yR;have kJ:=s1 _ _ hk;have wp:w≠p:=λz=>by rw[z,fp] at hk;cases hk
 refine aD (λσ H2=>(∃ e1,σ=[some (.ref wr),some (.ref x),e1])/\aj H H2/\di T.aN H2 x e t u d m p tb) (λN hN=>?_) ?_
 .rfl';refine⟨w,kvs,kJ,λo=>?_⟩;obtain⟨⟨dx,A0⟩,kp,kK,TJ⟩:=id hB;have xw:x≠w:=λz=>by rw[z,kJ] at A0;cases A0
  have l4:=yz kJ (s1 _ _ hwr) (u:=.aO o (.dT kvs));have w3:upd H1 w (.aO o (.dT kvs)) w=some (.aO o (.dT kvs)):=ar;have p3:upd H1 w (.aO o (.dT kvs)) p=some (.dT kp):=by rw[aG (Y1 wp)];exact kK
  have HV:di T.aN (upd H1 w (.aO o (.dT kvs))) x e t u d m p []:=⟨⟨dx,by rw[aG xw];exact A0⟩,kp,p3,TJ.imp λ_ _ _ z=>z.aO kJ⟩
  have nB:=bw.aO (hA.imp λ_ _ _ z=>aI.same z s1) kJ (u:=.aO o (.dT kvs));have tx:∀ H4,oH [p] (upd H1 w (.aO o (.dT kvs))) H4->aj H (upd H4 w (.dT kvs)):=λH4 bu b u hb=>by
   by_cases hbw:b=w
   .subst hbw;rw[ar];rw[hk] at hb;exact hb
   .rw[aG hbw];exact bu b u (by simpa using λz=>by rw[z,fp] at hb;cases hb) (by rw[aG hbw];exact s1 _ _ hb)
  refine ak (ah.of l4) (v:=.ref w) rfl ⟨w,rfl,o,kvs,w3,λA1=>?_⟩;have PT:=nB.uX A1;have kl:=PT.len;rw[XY] at kl;generalize upd H1 w (.aO o (.dT kvs))=H3 at l4 w3 p3 HV nB tx PT;have np:∀ (z:Ye) (us:List V),H3 z=some (.tup us)->z∉[p]:=λz us hz=>by simpa using λy=>by rw[y,p3] at hz;cases hz
  refine Px (xs:=gi o) (Tz T.aN H3 (.ref wr) x p e t u d m tb) rfl (by rw[kl,hA.len]) ⟨⟨_,rfl⟩,λ_ _ _ z=>z,HV⟩ ?_ ?_ ?_
  .rintro i σ H4 _ ⟨_,bu,_⟩;exact bu w _ (by simpa using wp) w3
  .rintro i v σ H4 hv ⟨⟨e1,rfl⟩,bu,vX⟩;obtain⟨r1,cc,ka,rfl,hka⟩:=PT.get hv;rw[Yf] at cc;obtain⟨r,hr,rfl⟩:=YJ.mp cc;have A2:=Yo hr;obtain⟨⟨vY,nC⟩,kq,tD,vZ⟩:=id vX;obtain⟨vv,hvv,va,rfl,hva⟩:=(nB.val r.1).2 _ (uY az.1 A2);have A3:=bu ka _ (np _ _ hka) hka;have HX:=bu wr _ (np _ _ l4) l4;have w4:=bu w _ (by simpa using wp) w3;have HY:=bu va _ (np _ _ hva) hva;have gt:fb H4 w (.ref ka) (some (.ref va)):=by rw[<- hvv];exact fb.z (k:=dX r.1.1 r.1.2) w4 A3
   rfl';refine⟨_,_,nC,rfl,ak (ah.of A3) (v:=.int r.1.1) rfl (ak (ah.of A3) (v:=.int r.1.2) rfl (ak (ah.of HX) (v:=.ref w) rfl ⟨w,rfl,.ref va,gt,ak (ah.of HY) rfl (ak (ah.of HX) (v:=.ref w) rfl ⟨w,rfl,.ref va,gt,ak (ah.of HY) rfl ?_⟩)⟩))⟩;have TK:=az.2 r A2;have TL:=vZ.len;rw[aa1] at TL;have xp:x≠p:=λz=>by rw[z,tD] at nC;cases nC
   refine⟨x,p,e,t,u,d,m,r.1.1,r.1.2,r.2.1,r.2.2,kq,rfl,⟨⟨vY,nC⟩,tD⟩,by lia,λz=>absurd ⟨TK,dD r A2⟩ z,λ_ v9 H9 sb A4 TM=>⟨⟨_,rfl⟩,λc o hc ec=>sb c o (by simpa using hc) (bu c o hc ec),?_⟩⟩;have ek:tb.take (i+1)=gf (tb.take i) r.1 r.2:=by rw[Tv (Tw az.1 hr),Zi,hr];rfl
   rw[ek];exact⟨⟨vY,sb x _ xp nC⟩,_,A4,bw.put (vZ.imp λv a b z=>z.fr (SameBut.fr sb tD)) TM⟩
  .rintro σ H4 ⟨⟨e1,rfl⟩,bu,vX⟩;rw[kl,Zr] at vX;have w4:=bu w _ (by simpa using wp) w3;obtain⟨⟨vY,nC⟩,kq,tD,vZ⟩:=vX;refine⟨w4,hN _ _ ⟨⟨_,rfl⟩,tx _ bu,⟨vY,by rw[aG xw];exact nC⟩,kq,by rw[aG (Y1 wp)];exact tD,vZ.imp λv a b ⟨pt,e,h⟩=>⟨pt,e,?_⟩⟩⟩;rw[aG (λz=>by rw[z,w4] at h;cases h)];exact h
 rintro _ yR σ H2 ⟨⟨e1,rfl⟩,s2,TN⟩;subst yR;rfl';exact q x p H2 s2 fx fp TN
def A5(tb:Tb)(cs:List Int)(i:Int):Prop:=∃ r∈tb,r.1.1=i/\hs r.2 (ki cs r.1.2.toNat)=false
inductive TQ(K:XW)(vs:List V)(H:Hp)(Q:VK)(aL:XK):Prop
 | mk(v:V)(w c:Ye)(e t u d m:Int)(tb:Tb)(cs:List Int)(_:vs=[v,.ref c])(_:hU H v w e t u d m tb)(_:bX e t tb)(_:tb.length<=60)(_:ai K H c (cs.map V.int))(_:cs.length=t.toNat)(_:∀ (zs:List Int) (H':Hp),aj H H'->zs.Nodup->(∀ i,i∈zs↔A5 tb cs i)->Q (.int zs.length) H')
theorem TR(T:Tx K mg):Ok P w base 2 T.sR (TQ K):=by
 refine bb Hh ?_;rintro _ _ _ _ H _ Q _ hr ⟨_,w,c,e,t,u,d,m,tb,cs,rfl,⟨wr,rfl,hwr,hT⟩,az,eV,hc,bh,q⟩;refine⟨_,(ay (E8 (aA (RY rfl (cE (bz.mk (fr:=[1,0]) (ys:=["_law_course","_law_world_here"]) rfl (by decide +kernel) rfl (by decide +kernel) rfl rfl (.cons rfl (.cons rfl .nil)) (.cons rfl rfl rfl rfl (.cons rfl rfl rfl rfl .nil)) (by decide) rfl) rfl (E9 (ax (aa 0) af)) (λC s2 H2 ex pn=>⟨(gd (cB (cz (aF (HH T) hr (ae (EF (gb hr) (b0 (K:=K) (aa 2) af) (aa 0) (λ_ _=>rfl)) (ae (b0 (K:=K) (aa 1) (b0 (K:=K) (aa 0) af)) ag)))))),(b0 (K:=K) (aa 0) af)⟩)) T.cT T.Hl)))),?_⟩;obtain⟨kvs,hk,hA⟩:=id hT;rfl';refine⟨w,kvs,hk,λo=>?_⟩;have l4:=yz hk hwr (u:=.aO o (.dT kvs));have w3:upd H w (.aO o (.dT kvs)) w=some (.aO o (.dT kvs)):=ar;have nB:=hA.aO hk (u:=.aO o (.dT kvs));have tE:ai K (upd H w (.aO o (.dT kvs))) c (cs.map V.int):=PF hk hc;have tx:∀ H4,aj (upd H w (.aO o (.dT kvs))) H4->aj H (upd H4 w (.dT kvs)):=λH4 s4=>PB hk s4;refine ak (ah.of l4) (v:=.ref w) rfl ⟨w,rfl,o,kvs,w3,λA1=>?_⟩;have PT:=nB.uX A1;have kl:=PT.len;rw[XY] at kl;generalize upd H w (.aO o (.dT kvs))=H3 at l4 w3 nB tE tx PT;have P0:aw (λv (r:P2 × S2)=>bD H3 v r.1) (gi o) tb:=aw.bind PT;refine bR (Pz (xs:=gi o) rfl (by rw[kl,hA.len])) (X5 (by lia:(gi o).length<=64) (by decide)) (mI (R:=λv (r:P2 × S2)=>bD H3 v r.1) (p:=λr=>!hs r.2 (ki cs r.1.2.toNat)) (f:=λr=>.int r.1.1) w3 P0 (λv r hr rv Q h=>?_) (λv r hr hp rv Q h=>?_) ?_)
 .obtain⟨ka,rfl,hka⟩:=rv;obtain⟨⟨b1,b2⟩,b3,b4⟩:=az.2 r hr;obtain⟨vv,hvv,va,rfl,hva⟩:=(nB.val r.1).2 _ (uY az.1 hr);rfl';refine ak (ah.of l4) (v:=.ref w) rfl ⟨w,rfl,.ref va,by rw[<- hvv];exact fb.z (k:=dX r.1.1 r.1.2) w3 hka,ak (ah.of hka) (v:=.int r.1.2) rfl (bH tE ((congrArg (cQ _) (show r.1.2=((r.1.2.toNat:Nat):Int) by lia)).trans (cY (PH (by lia)))) ⟨va,r.2.1,r.2.2,ki cs r.1.2.toNat,rfl,ah.of hva,?_⟩)⟩;rfl';exact h
 .obtain⟨ka,rfl,hka⟩:=rv;rfl';exact ak (ah.of hka) (v:=.int r.1.1) rfl h
 .rw[Yj,show ((tb.filter λr=>!hs r.2 (ki cs r.1.2.toNat)).map λr=>V.int r.1.1)=((tb.filter λr=>!hs r.2 (ki cs r.1.2.toNat)).map λr=>r.1.1).map V.int by rw[Y8];rfl];intro l hl;have u:=ao (o:=.lst (((tb.filter λr=>!hs r.2 (ki cs r.1.2.toNat)).map λr=>r.1.1).map V.int)) hl;have fl:=YH (λr:P2 × S2=>!hs r.2 (ki cs r.1.2.toNat)) tb;refine⟨l,rfl,_,ai.of ar,by rw[XY];lia,λzs hz hm=>⟨u _ _ w3,q zs _ (tx _ u) hz λi=>?_⟩⟩;rw[hm,Yc];constructor
  .rintro ⟨r,hr,e⟩;obtain⟨h1,h2⟩:=Yy.mp hr;exact⟨r,h1,e,by simpa using h2⟩
  .rintro ⟨r,hr,e,h⟩;exact⟨r,Yy.mpr ⟨hr,by simpa using h⟩,e⟩
theorem TU{ps:List Pa}{i:Nat}{p:Pa}{k:Str}{t:Int}(h:ps[i]?=some p):sel (ps.take (i+1)) k t=sel (ps.take i) k t++(if jt k t p=true then [p.2.2] else []):=by
 unfold sel;rw[Zi,h,aed,Zg]
 congr 1
 simp only[ad4,Y4,List.filter_nil];split<;>rfl
theorem TV(e:S2)(ss:List S2)(s:S2):aZ e (ss++[s])=(dt (aZ e ss).1 s.1,dv (aZ e ss).2 s.2):=by unfold aZ;rw[acz];rfl
inductive TX(K:XW)(vs:List V)(H:Hp)(Q:VK)(aL:XK):Prop
 | mk(bg b:Ye)(lo hi:En)(xs:List V)(ps:List Pa)(k:Str)(t:Int)(_:vs=[.ref bg,.ref b,.str k,.int t])(_:ah K H bg [ev lo,ev hi])(_:ai K H b xs)(_:de H xs ps)(_:ps.length<=1000)(_:∀ v H',aj H H'->aI H' v (aZ (lo,hi) (sel ps k t)).1 (aZ (lo,hi) (sel ps k t)).2->Q v H')
inductive tF(H:Hp)(bg b:Ye)(lo hi:En)(ps:List Pa)(k:Str)(t:Int)(i:Nat)(σ:St)(H1:Hp):Prop
 | mk(e1:Option V)(_:σ=[some (.ref bg),some (.ref b),some (.str k),some (.int t),some (ev (aZ (lo,hi) (sel (ps.take i) k t)).1),some (ev (aZ (lo,hi) (sel (ps.take i) k t)).2),e1])(_:H1=H)
theorem HZ(T:Tx K mg):Ok P w base 1 T.sS (TX K):=by
 refine bb nr ?_;rintro _ _ _ _ H _ _ _ _ ⟨bg,b,lo,hi,xs,ps,k,t,rfl,hg,hX,hP,hn,q⟩;refine⟨_,(au (aE 4 nr.nd (ax (aa 0) af))
  (au (aE 5 nr.nd (ax (aa 0) af))
  (au (cW YM rfl (cu (aa 1)) (cp 6 nr.nd) (ay (aK (PW.pt (iW (bZ (ax (aa 6) af) (aa 2)) (jM (bZ (ax (aa 6) af) (aa 3))))) (au (aK (PW.pt (cf (cS (aa 4)) (dO (PW.pt (iW (fg (ax (ax (aa 6) af) af)) (jM (y0 (ax (ax (aa 6) af) af) (aa 4)))))))) (ay (aE 4 nr.nd (ax (ax (aa 6) af) af))) aJ)
    (ay (aK (PW.pt (cf (cS (aa 5)) (dO (PW.pt (iW (fg (ax (ax (aa 6) af) af)) (jM (ng (ax (ax (aa 6) af) af) (aa 5)))))))) (ay (aE 5 nr.nd (ax (ax (aa 6) af) af))) aJ))) aJ)))
  (ay (aA (aT (ae (aa 4) (ae (aa 5) ag)))))))),?_⟩
 have hl:=hP.len;refine aD (λσ H1=>σ=[some (.ref bg),some (.ref b),some (.str k),some (.int t),some (ev lo),none,none]/\H1=H) (λN hN=>?_) ?_
 .rfl';exact ak hg rfl (hN _ _ ⟨rfl,rfl⟩)
 rintro _ yR σ H1 ⟨rfl,rfl⟩;subst yR;refine aD (tF H1 bg b lo hi ps k t 0) (λN hN=>?_) ?_
 .rfl';exact ak hg rfl (hN _ _ ⟨_,rfl,rfl⟩)
 rintro _ yR σ H ⟨e1,rfl,rfl⟩;subst yR;refine aD (tF H bg b lo hi ps k t xs.length) (λN hN=>?_) ?_
 .rfl';refine⟨⟨_,hX⟩,kZ (xs:=xs) (tF H bg b lo hi ps k t) ⟨_,rfl,rfl⟩ ?_ ?_ ?_⟩
  .rintro i σ H1 _ ⟨_,_,rfl⟩;exact hX
  .rintro i x σ H1 hx ⟨e1,rfl,rfl⟩;obtain⟨p,hp,tp,sp,rfl,h1,h2⟩:=hP.get hx;have es:=TU (k:=k) (t:=t) hp;rfl';refine ak (ah.of h1) (v:=.str p.1) rfl ?_;rfl';have skip:jt k t p=false->tF H1 bg b lo hi ps k t (i+1) [some (.ref bg),some (.ref b),some (.str k),some (.int t),some (ev (aZ (lo,hi) (sel (ps.take i) k t)).1),some (ev (aZ (lo,hi) (sel (ps.take i) k t)).2),some (.ref tp)] H1:=λhz=>⟨_,by rw[es,hz,if_neg Yq,aeS],rfl⟩
   by_cases hk:p.1=k
   .rw[if_pos (by rw[hk])];refine ak (ah.of h1) (v:=.int p.2.1) rfl ?_;rfl';refine aQ (λht=>?_) λht=>?_
    .have hz:jt k t p=true:=by unfold jt;rw[decide_eq_true hk,decide_eq_true ht];rfl
     rw[hz,if_pos rfl] at es;have fin:tF H1 bg b lo hi ps k t (i+1) [some (.ref bg),some (.ref b),some (.str k),some (.int t),some (ev (dt (aZ (lo,hi) (sel (ps.take i) k t)).1 p.2.2.1)),some (ev (dv (aZ (lo,hi) (sel (ps.take i) k t)).2 p.2.2.2)),some (.ref tp)] H1:=⟨_,by rw[es,TV],rfl⟩
     generalize (aZ (lo,hi) (sel (ps.take i) k t)).1=x at fin ⊢;generalize (aZ (lo,hi) (sel (ps.take i) k t)).2=y at fin ⊢;obtain⟨pk,pt,pa,pc⟩:=p;dsimp only at fin h1 h2 ⊢;rcases pa with _|pa<;>rcases pc with _|pc<;>rcases x with _|x<;>rcases y with _|y
     all_goals repeat' first
      | exact fin
      | refine ak (ah.of h2) rfl ?_
      | refine ak (ah.of h1) (v:=.ref sp) rfl ?_
      | (walk_at "p")
      | (refine aQ (λhc=>?_) λhc=>?_)
     all_goals (simp only[dt,dv] at fin;repeat' split at fin)
     all_goals first|exact fin|(exfalso;lia)
    .refine skip ?_;unfold jt;rw[decide_eq_false ht,adE]
   .rw[if_neg hk];refine skip ?_;unfold jt;rw[decide_eq_false hk,abv]
  .rintro σ H1 h;exact hN _ _ h
 rintro _ yR σ H1 ⟨e1,rfl,rfl⟩;subst yR;rw[hl,Zr];rfl';exact⟨a9,λp hp=>q _ _ (ao hp) ⟨p,rfl,ar⟩⟩
inductive TY(K:XW)(B:Ye)(vs:List V)(H:Hp)(Q:VK)(aL:XK):Prop
 | mk(x p:Ye)(e t u d m i:Int)(tb:Tb)(_:vs=[.ref x,.int i])(_:di B H x e t u d m p tb)(_:(tb.map (·.1)).Nodup)(_:tb.length<64)(_:(∀ r∈tb,0<=r.1.2))(_:∀ l ys H',aj H H'->H l=none->H' l=some (.lst ys)->aw (dM H') ys (lz tb i)->Q (.ref l) H')
theorem TZ(T:Tx K mg):Ok P w base 2 T.sy (TY K T.aN):=by
 refine bb GY ?_;rintro _ _ _ s H _ Q _ hr ⟨x,p,e,t,u,d,m,i,tb,rfl,hb,eT,dw,h0,q⟩;refine⟨_,(ay (aA (xA (g:=jO K 3 (cU (cg 0) (cU (cg 1) (cU (cg 2) iZ)))) (jX.mk (own:=["teller","turn","word"]) (fr:=[1]) (ys:=["eye"]) rfl (by decide +kernel) rfl (by decide +kernel) rfl (.cons rfl .nil) (.cons rfl rfl rfl rfl .nil) rfl) rfl (cu (Cy (aa 0) T.bO T.Hz (HP T) (hr.mono (by decide)) T.kF.b .nil bC)) (λC s2 H2 ex pn=>jP (n:=3) rfl (dF (fW (i:=0) (show (["teller","turn","word","eye"]:List Str).Nodup by decide) rfl (.inl (YA rfl)) (.inr (YA rfl))) (dF (fW (i:=1) (show (["teller","turn","word","eye"]:List Str).Nodup by decide) rfl (.inl (YA rfl)) (.inr (YA rfl))) (dF (fW (i:=2) (show (["teller","turn","word","eye"]:List Str).Nodup by decide) rfl (.inl (YA rfl)) (.inr (YA rfl))) jN)))) (λC s2 H2 ex pn=>⟨(gd (bZ (aa 0) (aa 3))),(aT (ae (aa 1) (ae (aa 2) ag)))⟩)))),?_⟩;obtain⟨⟨dx,hx⟩,tG⟩:=id hb;rfl';refine⟨_,_,hx,rfl,x,p,e,t,u,d,m,tb,rfl,hb,eT,dw,λl xs H1 s1 _ hl hT=>?_⟩;have tl:=hT.len;rw[mO] at tl;refine⟨l,rfl,⟨_,ai.of hl⟩,EX (row:=rowOf H1) (X5 (by lia:xs.length<=64) (by decide)) (vf (R:=λ_ x (r:P2 × S2)=>jr H1 x r) (R':=dM) (p:=λr=>decide (r.1.1=i)) (f:=λr=>(r.1.2.toNat,r.2)) (λ_ _ _ _ _ h=>h) (λ_ _ _ _ s' h=>h.same s') hT (bs:=[]) trivial (λH' s'=>E3 hl hT s') (λx r _ H2 s2 h1 Q h=>?_) (λx r b5 hp H2 s2 h1 Q h=>?_) λH2 zs s2 hz=>?_)⟩
 .obtain⟨ta,w,rfl,ha,hw⟩:=h1;unfold mT;dsimp only;rw[qN ha];rfl';exact vy (Q:=λk=>Q k H2) h
 .obtain⟨ta,w,rfl,ha,wp,rfl,hw⟩:=h1;unfold mU;dsimp only;rw[qN ha];rfl';have cc:=h0 r (qK b5);refine⟨a9,λt1 kL=>h _ _ (ao kL) ⟨t1,wp,rfl,?_,(ao kL) _ _ (s2 _ _ hw)⟩⟩;rw[ar];show some (HO.tup [.int r.1.2,.ref wp])=some (.tup [.int ((r.1.2.toNat:Nat):Int),.ref wp]);rw[ZL cc]
 .rw[Yj] at hz;intro l2 aU;exact q l2 zs _ (s1.trans (s2.trans (ao aU))) ((s1.trans s2).free aU) ar (hz.imp λ_ _ r=>r.same (ao aU))
inductive T4(K:XW)(B:Ye)(vs:List V)(H:Hp)(Q:VK)(aL:XK):Prop
 | mk(x p o:Ye)(e t u d m:Int)(tb:Tb)(es:List Int)(_:vs=[.ref x,.ref o])(_:di B H x e t u d m p tb)(_:(tb.map (·.1)).Nodup)(_:tb.length<64)(_:(∀ r∈tb,0<=r.1.2))(_:ai K H o (es.map V.int))(_:es.length<=100)(_:∀ l ys H',aj H H'->H' l=some (.lst ys)->aw (dM H') ys (((lr tb).filter λr=>!es.contains r.1.1).map λr=>(r.1.2.toNat,r.2))->Q (.ref l) H')
theorem Ia(T:Tx K mg):Ok P w base 2 T.sA (T4 K T.aN):=by
 refine bb GZ ?_;rintro _ _ _ s H _ Q _ hr ⟨x,p,o,e,t,u,d,m,tb,es,rfl,hb,eT,dw,h0,ho,qV,q⟩;refine⟨_,(ay (aA (xA (g:=jO K 3 (cU (cg 0) (cU (cg 1) (cU (cg 2) iZ)))) (jX.mk (own:=["teller","turn","word"]) (fr:=[1]) (ys:=["some"]) rfl (by decide +kernel) rfl (by decide +kernel) rfl (.cons rfl .nil) (.cons rfl rfl rfl rfl .nil) rfl) rfl (cu (Cy (aa 0) T.bO T.Hz (HP T) (hr.mono (by decide)) T.kF.b .nil bC)) (λC s2 H2 ex pn=>jP (n:=3) rfl (dF (fW (i:=0) (show (["teller","turn","word","some"]:List Str).Nodup by decide) rfl (.inl (YA rfl)) (.inr (YA rfl))) (dF (fW (i:=1) (show (["teller","turn","word","some"]:List Str).Nodup by decide) rfl (.inl (YA rfl)) (.inr (YA rfl))) (dF (fW (i:=2) (show (["teller","turn","word","some"]:List Str).Nodup by decide) rfl (.inl (YA rfl)) (.inr (YA rfl))) jN)))) (λC s2 H2 ex pn=>⟨(gd (jS (MS (K:=K) rfl) (aa 0) (aa 3) (by with_unfolding_all rfl))),(aT (ae (aa 1) (ae (aa 2) ag)))⟩)))),?_⟩;obtain⟨⟨dx,hx⟩,tG⟩:=id hb;rfl';refine⟨_,_,hx,rfl,x,p,e,t,u,d,m,tb,rfl,hb,eT,dw,λl xs H1 s1 _ hl hT=>?_⟩;have tl:=hT.len;rw[mO] at tl;refine⟨l,rfl,⟨_,ai.of hl⟩,EX (row:=rowOf H1) (X5 (by lia:xs.length<=64) (by decide)) (vf (R:=λ_ x (r:P2 × S2)=>jr H1 x r) (R':=dM) (p:=λr=>!es.contains r.1.1) (f:=λr=>(r.1.2.toNat,r.2)) (λ_ _ _ _ _ h=>h) (λ_ _ _ _ s' h=>h.same s') hT (bs:=[]) trivial (λH' s'=>E3 hl hT s') (λx r _ H2 s2 h1 Q h=>?_) (λx r b5 hp H2 s2 h1 Q h=>?_) λH2 zs s2 hz=>?_)⟩
 .obtain⟨ta,w,rfl,ha,hw⟩:=h1;unfold mT;dsimp only;rw[qN ha];rfl';refine⟨o,_,rfl,.inl ((s1.trans s2).seq ho),rfl,E2 es,_,rfl,?_⟩;rw[yo,if_pos rfl];exact h
 .obtain⟨ta,w,rfl,ha,wp,rfl,hw⟩:=h1;unfold mU;dsimp only;rw[qN ha];rfl';have cc:=h0 r (qK b5);refine⟨a9,λt1 kL=>h _ _ (ao kL) ⟨t1,wp,rfl,?_,(ao kL) _ _ (s2 _ _ hw)⟩⟩;rw[ar];show some (HO.tup [.int r.1.2,.ref wp])=some (.tup [.int ((r.1.2.toNat:Nat):Int),.ref wp]);rw[ZL cc]
 .rw[Yj] at hz;intro l2 aU;exact q l2 zs _ (s1.trans (s2.trans (ao aU))) ar (hz.imp λ_ _ r=>r.same (ao aU))
inductive pA(H:Hp)(v:V)(r:Gp):Prop
 | mk(g k:Ye)(zs:List V)(_:v = .ref g)(_:H g=some (.tup [ev r.1,.ref k]))(_:H k=some (.lst zs))(_:aw (dM H) zs r.2)
theorem pA.same(h:pA H v r)(s:aj H H'):pA H' v r:=let ⟨g,k,zs,e,a,b,c⟩:=h;⟨g,k,zs,e,s _ _ a,s _ _ b,c.imp λ_ _ x=>x.same s⟩
inductive T5(K:XW)(B:Ye)(vs:List V)(H:Hp)(Q:VK)(aL:XK):Prop
 | mk(x p:Ye)(e t u d m:Int)(tb:Tb)(_:vs=[.ref x])(_:di B H x e t u d m p tb)(_:(tb.map (·.1)).Nodup)(_:tb.length<64)(_:(∀ r∈tb,0<=r.1.2))(_:0<=e)(_:e<=7)(_:∀ l ys H',aj H H'->H l=none->H' l=some (.lst ys)->aw (pA H') ys ((qY e.toNat tb).map λr=>(some r.1,r.2))->Q (.ref l) H')
theorem T6(T:Tx K mg):Ok P w base 3 T.sC (T5 K T.aN):=by
 refine bb G0 ?_;rintro _ _ _ s _ _ Q _ hr ⟨x,p,e,t,u,d,m,tb,rfl,hb,eT,dw,b5,h0,h7,q⟩;refine⟨_,(ay (aA (cE (bz.mk (fr:=[0]) (ys:=["board"]) rfl (by decide +kernel) rfl (by decide +kernel) rfl rfl (.cons rfl .nil) (.cons rfl rfl rfl rfl .nil) (by decide) rfl) rfl (fE rfl T.dg (ae (bS rfl (aa 0) rfl) ag)) (λC s2 H2 ex pn=>⟨cD,(aT (ae (aa 0) (ae (aF (TZ T) hr (ae (aa 1) (ae (aa 0) ag))) ag)))⟩)))),?_⟩;obtain⟨⟨dx,hx⟩,hp⟩:=id hb;rfl';refine⟨_,_,_,hx,T.bO,T.pf,_,rfl,?_⟩;refine⟨e,rfl,by lia,by lia,bR gK (by rw[XY,Yb];exact X5 (by lia:_<=12) (by decide)) (eB (R:=λ_ x (k:Nat)=>x=V.int ((0:Int)+k)) (R':=pA) (f:=λ(k:Nat)=>((some (k:Int),lz tb (k:Int)):Gp)) (λ_ _ _ _ _ h=>h) (λ_ _ _ _ s' h=>h.same s') (aw.fj _) (bs:=[]) trivial (λ_ _=>trivial) (λx k _ H2 s2 r Q h=>?_) (λx k _ H2 s2 r Q h=>?_) λH2 zs s2 hz=>?_)⟩
 .rfl';exact h
 .subst r;rfl';rw[aaN];refine⟨x,p,e,t,u,d,m,(k:Int),tb,rfl,hb.same s2,eT,dw,b5,λl ys H3 s3 _ hl hM=>⟨a9,λg hg=>?_⟩⟩;have u1:=ao (o:=.tup [.int (k:Int),.ref l]) hg;exact h _ _ (s3.trans u1) ⟨g,l,ys,rfl,ar,u1 _ _ hl,hM.imp λ_ _ x=>x.same u1⟩
 .intro l hl;rw[Yj] at hz;refine q l zs _ (s2.trans (ao hl)) (s2.free hl) ar ?_;unfold qY;rw[Y8];exact hz.imp λ_ _ r=>r.same (ao hl)
inductive T7(K:XW)(vs:List V)(H:Hp)(Q:VK)(aL:XK):Prop
 | mk(v u:V)(s:S2)(p:P2)(_:vs=[v,u])(_:aI H v s.1 s.2)(_:bD H u p)(_:∀ r H',aj H H'->H r=none->H' r=some (.tup [ev (eG s p).1,ev (eG s p).2])->Q (.ref r) H')
theorem Ib(T:Tx K mg):Ok P w base 1 T.rZ (T7 K):=by
 refine bb vG ?_;rintro _ _ _ _ _ _ _ _ hr ⟨v,u,⟨lo,hi⟩,⟨p1,p2⟩,rfl,⟨a,rfl,ha⟩,⟨b,rfl,hb⟩,q⟩;refine⟨_,(au (aE 2 vG.nd (iX (cS (ax (aa 0) af)) bq (aH bE (ax (aa 0) af) (ax (aa 1) af))))
  (au (aE 3 vG.nd (iX (cS (ax (aa 0) af)) bq (aH bE (ax (aa 0) af) (ax (aa 1) af))))
  (ay (aA (aT (ae (aa 2) (ae (aa 3) ag))))))),?_⟩
 rcases lo with _|lo<;>rcases hi with _|hi
 all_goals simp only[qD,qE] at ha
 all_goals
  rfl'
  repeat' first
  | refine ak (ah.of ha) rfl ?_
  | refine ak (ah.of hb) rfl ?_
  | (walk_at "p")
 all_goals exact⟨a9,λr hr=>q r _ (ao hr) hr ar⟩
theorem T8(h:aw (λv (s:S2)=>aI H v s.1 s.2) zs ss)(h0:0<ss.length):∃ v,cQ zs (-1)=some v/\aI H v (ba ss (ss.length-1)).1 (ba ss (ss.length-1)).2:=by
 have hl:=h.len;obtain⟨v,hv,r⟩:=h.at (X0 (l:=ss) (i:=ss.length-1) (by lia));have e:zs=zs.take (ss.length-1)++[v]:=by have:=aai (ss.length-1) zs;rw[Y3 (by lia),abl (by lia)] at this;rw[X0 (by lia)] at hv;cases hv;exact this.symm
 refine⟨v,by rw[e];exact wX _ _,?_⟩;unfold ba;rw[XZ,X0 (by lia)];exact r
inductive T9(K:XW)(vs:List V)(H:Hp)(Q:VK)(aL:XK):Prop
 | mk(a b:Ye)(xs ys:List V)(ws:List W2)(ps:List P2)(_:vs=[.ref a,.ref b])(_:ai K H a xs)(_:aw (dW H) xs ws)(_:ai K H b ys)(_:dU H ys ps)(_:ws.length<=ps.length+1)(_:ws.length<=1000)(_:(∀ t,t<ws.length->aR (eS ws) (aC ps) t=none->∀ H',aj H H'->Q .non H'))(_:((∀ t,t<ws.length->aR (eS ws) (aC ps) t≠none)->∀ l zs ss H',aj H H'->H l=none->H' l=some (.lst zs)->aw (lx H') zs ss->ss.length=ws.length->(∀ t,t<ws.length->aR (eS ws) (aC ps) t=some (ba ss t))->Q (.ref l) H'))
inductive Ic(H:Hp)(a b l:Ye)(ws:List W2)(ps:List P2)(i:Nat)(σ:St)(H1:Hp):Prop
 | mk(zs:List V)(ss:List S2)(e1 e2 e3:Option V)(_:σ=[some (.ref a),some (.ref b),some (.ref l),e1,e2,e3])(_:aj H H1)(_:H1 l=some (.lst zs))(_:aw (lx H1) zs ss)(_:ss.length=i)(_:∀ t,t<i->aR (eS ws) (aC ps) t=some (ba ss t))
theorem Ie(T:Tx K mg):Ok P w base 3 T.se (T9 K):=by
 refine bb nh ?_;rintro _ _ _ _ H _ _ _ hr ⟨a,b,xs,ys,ws,ps,rfl,hS,hW,hT,hP,hl,hn,q0,q⟩;refine⟨_,(au (aE 2 nh.nd (ck ag))
  (au (cW YM rfl (xJ rfl T.vL (ae (aa 0) ag)) (jP rfl (dF (cp 3 nh.nd) (dF (cp 4 nh.nd) jN))) (au (aE 5 nh.nd (aa 4))
    (au (aK (PW.pt (iW (y0 (aa 3) af) (jM (fg (aa 4))))) (ay (aE 5 nh.nd (aF (AU T) hr (ae (aa 4) (ae (aF (Ib T) hr (ae (ax (aa 2) (gG gU af)) (ae (ax (aa 1) (aH dA (aa 3) af)) ag))) ag))))) aJ)
    (au (aK (cS (aa 5)) (ay (aA bq)) aJ)
    (ay (fD (i9 YW ZT ZU qk (aa 2) (ae (aa 5) ag))))))))
  (ay (aA (aa 2))))),?_⟩
 have l1:=hW.len;have l2:=hP.len;rfl';refine⟨by decide,λl dZ=>?_⟩;have s1:=ao (o:=.lst []) dZ;have e1:upd H l (.lst []) l=some (.lst []):=ar;generalize upd H l (.lst [])=H1 at s1 e1 ⊢;rfl';refine⟨⟨_,s1.seq hS⟩,xP (xs:=xs) (Ic H a b l ws ps) ⟨[],[],_,_,_,rfl,s1,e1,trivial,rfl,λt h=>absurd h (ZN _)⟩ ?_ ?_ ?_⟩
 .rintro i σ H2 _ ⟨_,_,_,_,_,_,s2,_⟩;exact s2.seq hS
 .rintro i x σ H2 p hx ⟨zs,ss,d1,d2,d3,rfl,s2,aU,hz,hlen,fz⟩ hp;obtain⟨w,hw,r⟩:=hW.get hx;have sp:=ao (o:=.tup [.int i,x]) hp;refine mH (ah.of ar) ?_;generalize upd H2 p (.tup [.int i,x])=H3 at sp ⊢;have s3:=s2.trans sp;have r3:=r.same s3;have dj:=sp _ _ aU;have cP:=hz.imp λ_ _ r=>aI.same r sp;have zl:=hz.len;have ew:eS ws i=w:=by unfold eS;rw[XZ,hw];rfl
  have hi:=(X6.mp hx).1;have add:∀ (v:V) (k:S2) (H4:Hp) (d1 d2 d3:Option V),aj H3 H4->aI H4 v k.1 k.2->aR (eS ws) (aC ps) i=some k->Ic H a b l ws ps (i+1) [some (.ref a),some (.ref b),some (.ref l),d1,d2,d3] (upd H4 l (.lst (zs++[v]))):=λv k H4 d1 d2 d3 s4 hv ek=>by
   have A6:=s4 _ _ dj;refine⟨zs++[v],ss++[k],d1,d2,d3,rfl,jb dZ (s3.trans s4),ar,?_,by rw[Yh,Yx,hlen],λt ht=>?_⟩
   .exact ((cP.imp λ_ _ r=>aI.same r s4).snoc hv).imp λ_ _ r=>aI.put r A6
   .unfold ba;rw[XZ];by_cases e:t=i
    .subst e;rw[ek,Za (by lia),hlen,adq];rfl
    .rw[fz t (by lia),YX (by lia)];unfold ba;rw[XZ]
  cases w with
  | none =>
   obtain rfl:x = .non:=r3;have e0:aR (eS ws) (aC ps) i=none:=by
    cases i with
    | zero=>exact ew
    | succ i=>unfold aR;rw[ew]
   rfl';have fin:=q0 i (by lia) e0 _ s3;exact aQ (λ_=>fin) λ_=>fin
  | some k =>
   obtain⟨rp,rfl,hrp⟩:=id (show aI H3 x k.1 k.2 from r3);cases i with
   | zero =>
    rfl';exact⟨.inl ⟨rfl,_,ai.of dj⟩,_,dj,Ze (by lia:zs.length<=1000) (by decide),add _ k _ _ _ _ (aj.refl _) r3 ew⟩
   | succ i =>
    rfl';rw[if_pos (by lia)];obtain⟨v,hv,rv⟩:=T8 (ss:=ss) cP (by lia);obtain⟨u,hu,ru⟩:=hP.at (X0 (l:=ps) (i:=i) (by lia));have ep:ps[i]'(by lia)=aC ps i:=by unfold aC;rw[XZ,X0 (by lia)];rfl
    rw[ep] at ru;rw[show (((i+1:Nat):Int)-1)=((i:Nat):Int) by lia];refine bH (ai.of dj) hv (bH (s3.seq hT) (cY hu) ?_);rw[hlen,Nat.add_sub_cancel] at rv;refine⟨v,u,ba ss i,aC ps i,rfl,rv,ru.same s3,λr H4 s4 _ Ua=>?_⟩;refine⟨_,_,k.1,k.2,_,_,rfl,⟨rp,rfl,s4 _ _ hrp⟩,⟨r,rfl,Ua⟩,λy H5 s5 hy=>?_⟩;have ek:=fz i (by lia);have en:aR (eS ws) (aC ps) (i+1)=gh k (eG (ba ss i) (aC ps i)):=by
     show (match eS ws (i+1),aR (eS ws) (aC ps) i with
      | some b,some k=>gh b (eG k (aC ps i))
      | _,_=>none)=_
     rw[ew,ek]
    have tH:=(s4.trans s5) _ _ dj;unfold gh at en;cases hc:aW (dt k.1 (eG (ba ss i) (aC ps i)).1) (dv k.2 (eG (ba ss i) (aC ps i)).2) with
    | true =>
     rw[if_pos hc] at en;obtain rfl:=hy.1 hc;rfl';exact q0 (i+1) (by lia) en _ (s3.trans (s4.trans s5))
    | false =>
     rw[if_neg (by rw[hc];simp)] at en;have pB:=hy.2 hc;obtain⟨yp,rfl,hyp⟩:=id pB;rfl';exact⟨.inl ⟨rfl,_,ai.of tH⟩,_,tH,Ze (by lia:zs.length<=1000) (by decide),add _ _ _ _ _ _ (s4.trans s5) pB en⟩
 .rintro σ H2 ⟨zs,ss,d1,d2,d3,rfl,s2,aU,hz,hlen,fz⟩;rfl';rw[l1] at hlen fz;exact q (λt ht=>by rw[fz t ht];simp) l zs ss H2 s2 dZ aU hz hlen fz
inductive Ub(K:XW)(vs:List V)(H:Hp)(Q:VK)(aL:XK):Prop
 | mk(a:Ye)(xs:List V)(ms:List Mk)(t:Nat)(_:vs=[.ref a,.int t])(_:ai K H a xs)(_:aw (dM H) xs ms)(_:ms.length<=1000)(_:∀ l ys H',aj H H'->H' l=some (.lst ys)->cv H' ys (atT ms t)->Q (.ref l) H')
theorem Uc(T:Tx K mg):Ok P w base 1 T.sf (Ub K):=by
 refine bb GV ?_;rintro _ _ _ s H _ Q _ _ ⟨a,xs,ms,t,rfl,hS,hM,hn,q⟩;refine⟨_,(ay (aA (cE (bz.mk (fr:=[1]) (ys:=["turn"]) rfl (by decide +kernel) rfl (by decide +kernel) rfl rfl (.cons rfl .nil) (.cons rfl rfl rfl rfl .nil) (by decide) rfl) rfl (cu (aa 0)) (λC s2 H2 ex pn=>⟨(gd (bZ (b0 (K:=K) (aa 0) af) (aa 1))),(b0 (K:=K) (aa 0) af)⟩)))),?_⟩;have hl:=hM.len;rfl';refine⟨⟨_,hS⟩,bR eo (X5 (by lia:xs.length<=1000) (by decide)) (oI (R:=dM H) (R':=λv (s:S2)=>aI H v s.1 s.2) (p:=λm=>decide (m.1=t)) (f:=λm=>m.2) hS hM (λx m r Q h=>?_) (λx m hp r Q h=>?_) λzs hz=>?_)⟩
 .obtain⟨tp,sp,rfl,h1,h2⟩:=r;rfl';refine ak (ah.of h1) rfl ?_;rfl';refine vy (Q:=λk=>Q k H) ?_;rw[show decide ((m.1:Int)=(t:Int))=decide (m.1=t) from decide_eq_decide.mpr (by lia)];exact h
 .obtain⟨tp,sp,rfl,h1,h2⟩:=r;rfl';exact ak (ah.of h1) rfl (h _ ⟨sp,rfl,h2⟩)
 .rw[Yj];intro l hl;exact q l zs _ (ao hl) ar (j7.mpr (hz.imp λ_ _ r=>r.same (ao hl)))
theorem aw.rev:∀ {xs:List V} {as:List α},aw R xs as->aw R xs.reverse as.reverse
 | [],[],_=>trivial
 | x::xs,a::as,h=>by rw[abq,abq];exact (aw.rev h.2).app ⟨h.1,trivial⟩
 | [],_::_,h=>h.elim
 | _::_,[],h=>h.elim
inductive Ig(K:XW)(vs:List V)(H:Hp)(Q:VK)(aL:XK):Prop
 | mk(a b:Ye)(xs ys:List V)(ps:List P2)(ms:List Mk)(_:vs=[.ref a,.ref b])(_:ai K H a xs)(_:dU H xs ps)(_:ai K H b ys)(_:aw (dM H) ys ms)(_:cZ ps)(_:ps.length<=900)(_:ms.length<=1000)(_:(∀ t,t<=ps.length->aR (bB ms) (aC ps) t=none->∀ H',aj H H'->Q .non H'))(_:((∀ t,t<=ps.length->aR (bB ms) (aC ps) t≠none)->∀ l zs ss H',aj H H'->H l=none->H' l=some (.lst zs)->aw (lx H') zs ss->ss.length=ps.length+1->(∀ t,t<=ps.length->cy ps.length (bB ms) (aC ps) t=some (ba ss t))->Q (.ref l) H'))
theorem Ih(T:Tx K mg):Ok P w base 4 T.si (Ig K):=by
 refine bb vH ?_;rintro _ _ _ s H _ Q _ hr ⟨a,b,xs,ys,ps,ms,rfl,hS,hP,hT,hM,az,hn,hm,q0,q⟩;refine⟨_,(au (aE 2 vH.nd (aF (Ie T) hr (ae (cE (bz.mk (fr:=[1]) (ys:=["marks"]) rfl (by decide +kernel) rfl (by decide +kernel) rfl rfl (.cons rfl .nil) (.cons rfl rfl rfl rfl .nil) (by decide) rfl) rfl (fE rfl T.dg (ae (aH bE (aY cX (by rfl) T.cT cR (ae (aa 0) ag)) af) ag)) (λC s2 H2 ex pn=>⟨cD,(aF (AZ T) hr (ae (aF (Uc T) hr (ae (aa 1) (ae (aa 0) ag))) ag))⟩)) (ae (aa 0) ag))))
  (au (aK (cS (aa 2)) (ay (aA bq)) aJ)
  (au (k8 (i:=3) (bz.mk (fr:=[]) (ys:=[]) rfl (by decide +kernel) rfl (by decide +kernel) rfl rfl .nil .nil (by decide) rfl) rfl vH.nd rfl rfl (Nb rfl T.R9 (ae (aa 0) ag)) (λC s2 H2 ex pn=>⟨cD,(aT (ae (gG gU (b0 (K:=K) (aa 0) af)) (ae (gG gU (b0 (K:=K) (aa 0) af)) ag)))⟩))
  (ay (aA (EZ (aF (Ie T) hr (ae (EZ (aa 2) (gG gU af)) (ae (aa 3) ag))) (gG gU af))))))),?_⟩
 have l1:=hP.len;rfl';refine⟨_,dR hS,by lia,by lia,?_⟩;rw[l1,show ((ps.length:Int)+1).toNat=ps.length+1 by lia];refine bR gK (by rw[XY,Yb];exact X5 (by lia:_<=901) (by decide)) (eB (R:=λ_ x (k:Nat)=>x=V.int ((0:Int)+k)) (R':=dW) (f:=λ(k:Nat)=>bB ms k) (λ_ _ _ _ _ h=>h) (λ_ _ _ _ s' h=>h.same s') (aw.fj _) (bs:=[]) trivial (λ_ _=>trivial) (λx k _ H2 s2 r Q h=>?_) (λx k _ H2 s2 r Q h=>?_) λH2 zs s2 hz=>?_)
 .rfl';exact h
 .subst r;rfl';rw[show (0:Int)+(k:Nat)=((k:Nat):Int) by lia];refine⟨b,ys,ms,k,rfl,s2.seq hT,hM.imp λ_ _ r=>r.same s2,hm,λl zs H3 s3 hl hs=>?_⟩;refine⟨l,zs,_,rfl,ai.of hl,hs,?_,λv H4 s4 hv=>h H4 v (s3.trans s4) hv⟩;rw[hs.len];unfold atT;rw[XY];exact X5 (YH _ _) hm
 rw[Yj] at hz;intro c hc;have s3:=s2.trans (ao (o:=.lst zs) hc);have c3:upd H2 c (.lst zs) c=some (.lst zs):=ar;have cP:=hz.imp λ_ _ r=>r.same (ao (o:=.lst zs) hc);generalize upd H2 c (.lst zs)=H3 at s3 c3 cP ⊢;clear hz hc s2;have wl:((Yn (ps.length+1)).map λ(k:Nat)=>bB ms k).length=ps.length+1:=by rw[XY,Yb]
 have we:∀ t,t<=ps.length->eS ((Yn (ps.length+1)).map λ(k:Nat)=>bB ms k) t=bB ms t:=λt ht=>by unfold eS;rw[XZ,Yf,YN (by lia)];rfl
 have ne:∀ t,t<=ps.length->aR (eS ((Yn (ps.length+1)).map λ(k:Nat)=>bB ms k)) (aC ps) t=aR (bB ms) (aC ps) t:=λt ht=>yj t (λk hk=>we k (by lia)) λk _=>rfl;refine⟨c,a,zs,xs,_,ps,rfl,ai.of c3,cP,s3.seq hS,hP.same s3,by rw[wl];exact X9 _,by rw[wl];lia,λt ht en H4 s4=>?_,λa7 l iT ss H4 s4 _ hl l5 jc fz=>?_⟩
 .rw[wl] at ht;rw[ne t (by lia)] at en;rfl';exact q0 t (by lia) en _ (s3.trans s4)
 rw[wl] at a7 fz jc;have Ii:∀ t,t<=ps.length->aR (bB ms) (aC ps) t≠none:=λt ht z=>a7 t (by lia) (by rw[ne t ht];exact z);have Ud:∀ t,t<ps.length+1->aR (bB ms) (aC ps) t=some (ba ss t):=λt ht=>by rw[<- ne t (by lia)];exact fz t ht
 have TB:=ym az Ii;have S4:=s3.trans s4;rfl';refine⟨xs,S4.seq hS,Pb (X5 (by lia:_<=900) (by decide)) (eB (R:=bD) (R':=bD) (f:=λp=>(-p.2,-p.1)) (λ_ _ _ _ s' h=>h.same s') (λ_ _ _ _ s' h=>h.same s') (aw.rev (hP.same S4)) (bs:=[]) trivial (λH' s'=>(S4.trans s').seq hS) (λx k _ H2 s2 r Q h=>?_) (λx k _ H2 s2 r Q h=>?_) λH5 bs s5 hb=>?_)⟩
 .rfl';exact h
 .obtain⟨t,rfl,ht⟩:=r;rfl';refine ak (ah.of ht) rfl ?_;rfl';refine ak (ah.of ht) rfl ?_;rfl';exact⟨a9,λp hp=>h _ _ (ao hp) ⟨p,rfl,ar⟩⟩
 rw[Yj] at hb;intro d hd;have s6:=s5.trans (ao (o:=.lst bs) hd);have d6:upd H5 d (.lst bs) d=some (.lst bs):=ar;have Ij:dU (upd H5 d (.lst bs)) bs (ke ps):=hb.imp λ_ _ r=>r.same (ao (o:=.lst bs) hd);generalize upd H5 d (.lst bs)=H6 at s6 d6 Ij ⊢;clear hb hd s5;refine⟨iT,ai.of (s6 _ _ hl),λp hp=>?_⟩;have s7:=s6.trans (ao (o:=.lst iT.reverse) hp);have p7:upd H6 p (.lst iT.reverse) p=some (.lst iT.reverse):=ar;have d7:=(ao (o:=.lst iT.reverse) hp) _ _ d6;have Ik:dU (upd H6 p (.lst iT.reverse)) bs (ke ps):=Ij.same (ao (o:=.lst iT.reverse) hp);generalize upd H6 p (.lst iT.reverse)=H7 at s7 p7 d7 Ik ⊢;have rl:(ss.reverse.map some).length=ps.length+1:=by rw[XY,ZJ,jc]
 have bl:(ke ps).length=ps.length:=by unfold ke;rw[XY,ZJ]
 have be:∀ t,t<=ps.length->aR (eS (ss.reverse.map some)) (aC (ke ps)) t=cy ps.length (bB ms) (aC ps) (ps.length-t):=λt ht=>back_eq jc Ud ht;refine⟨p,d,_,bs,ss.reverse.map some,ke ps,rfl,ai.of p7,aw.ya (aw.rev (l5.imp λ_ _ r=>aI.same r s7)),ai.of d7,Ik,by rw[rl,bl];exact X9 _,by rw[rl];lia,λt ht en H8 s8=>?_,λ_ l3 Ue Ug H8 s8 Xz dj Uh A7 Il=>?_⟩
 .rw[rl] at ht;rw[be t (by lia)] at en;obtain⟨z,ez,_⟩:=TB.ok (ps.length-t) (by lia);rw[en] at ez;cases ez
 rw[rl] at A7 Il;have S8:=S4.trans (s7.trans s8);refine⟨l3,rfl,Ue,ai.of dj,λp3 tI=>q Ii p3 _ Ug.reverse _ (S8.trans (ao tI)) (S8.free tI) ar (aw.rev (Uh.imp λ_ _ r=>aI.same r (ao tI))) (by rw[ZJ,A7]) λt ht=>?_⟩;rw[OZ A7 ht,<- Il (ps.length-t) (by lia),be _ (by lia),show ps.length-(ps.length-t)=t by lia]
inductive Ui(K:XW)(vs:List V)(H:Hp)(Q:VK)(aL:XK):Prop
 | mk(a b:Ye)(xs ys:List V)(ps:List P2)(ms:List Mk)(_:vs=[.ref a,.ref b])(_:ai K H a xs)(_:dU H xs ps)(_:ai K H b ys)(_:aw (dM H) ys ms)(_:cZ ps)(_:ps.length<=900)(_:ms.length<=1000)(_:(∀ m∈ms,m.1<=ps.length))(_:((¬ ∃ c,eJ ps c/\meets ms c)->∀ H',aj H H'->Q .non H'))(_:(∀ l cs H',aj H H'->H l=none->H' l=some (.lst (cs.map V.int))->cs.length=ps.length+1->eJ ps (bM cs)->meets ms (bM cs)->Q (.ref l) H'))
inductive Uj(H:Hp)(a b x l c:Ye)(zs:List V)(ss:List S2)(ps:List P2)(ms:List Mk)(i:Nat)(σ:St)(H1:Hp):Prop
 | mk(cs:List Int)(e1 e2:Option V)(_:σ=[some (.ref a),some (.ref b),some (.ref x),some (.ref l),e1,e2])(_:aj H H1)(_:H1 l=some (.lst (cs.map V.int)))(_:H1 c=some (.lst (zs.drop 1)))(_:aw (lx H1) zs ss)(_:cs.length=i+1)(_:(∀ t,t<=i->bL (cy ps.length (bB ms) (aC ps) t) (bM cs t)))(_:∀ k,k<i->(aC ps k).1<=bM cs (k+1)-bM cs k/\bM cs (k+1)-bM cs k<=(aC ps k).2)
theorem v3(h:t<cs.length):bM (cs++[n]) t=bM cs t:=by unfold bM;rw[XZ,XZ,YX h]
theorem Im(h:cs.length=t):bM (cs++[n]) t=n:=by unfold bM;rw[XZ,Za (by lia),h,adq];rfl
theorem Uk{cs:List Int}{i:Nat}(h:cs.length=i+1):cQ (cs.map V.int) (-1)=some (.int (bM cs i)):=by
 have e:cs=cs.take i++[bM cs i]:=by have:=aai i cs;rw[Y3 (by lia),abl (by lia)] at this;unfold bM;rw[XZ,X0 (by lia)];exact this.symm
 have e2:cs.map V.int=(cs.take i).map V.int++[V.int (bM cs i)]:=(congrArg (List.map V.int) e).trans (by rw[Zg];rfl);rw[e2];exact wX _ _
theorem Io(h:aW s.1 s.2=false):bp s (kf s):=EI.mpr (Pc h)
theorem Ip(h:i<ss.length):ss[i]?=some (ba ss i):=by unfold ba;rw[XZ,X0 h];rfl
theorem A8(h:i<ps.length):ps[i]?=some (aC ps i):=by unfold aC;rw[XZ,X0 h];rfl
theorem Ul(T:Tx K mg):Ok P w base 5 T.sk (Ui K):=by
 refine bb o6 ?_;rintro _ _ _ s H _ _ _ hr ⟨a,b,xs,ys,ps,ms,rfl,hS,hP,hT,hM,az,hn,hm,ht,q0,q⟩;refine⟨_,(au (aE 2 o6.nd (aF (Ih T) hr (ae (aa 0) (ae (aa 1) ag))))
  (au (aK (cS (aa 2)) (ay (aA bq)) aJ)
  (au (aE 3 o6.nd (ck (ae (aF (HU T) hr (ae (ax (aa 2) af) ag)) ag)))
  (au (cW YM rfl (DO rfl T.Ho (ae (aa 0) (ae (Ll Lv (aa 2) (Lj af) Li) ag))) (jP rfl (dF (cp 4 o6.nd) (dF (cp 5 o6.nd) jN))) (ay (fD (i9 YW ZT ZU qk (aa 3) (ae (aF (HU T) hr (ae (aF (AU T) hr (ae (aa 5) (ae (aF (Ib T) hr (ae (aT (ae (ax (aa 3) (gG gU af)) (ae (ax (aa 3) (gG gU af)) ag))) (ae (aa 4) ag))) ag))) ag)) ag)))))
  (ay (aA (aa 3))))))),?_⟩
 have l1:=hP.len;rfl';refine⟨a,b,xs,ys,ps,ms,rfl,hS,hP,hT,hM,az,hn,hm,λt ht en H1 s1=>?_,λa7 x zs ss H1 s1 fx hx hz jc fz=>?_⟩
 .rfl';refine q0 ?_ _ s1;rintro ⟨c,hc,kB⟩;exact EU hc kB t ht en
 have TB:=ym az a7;have zl:=hz.len;have Um:∀ t,t<=ps.length->aW (ba ss t).1 (ba ss t).2=false:=λt ht=>by obtain⟨s,es,hs⟩:=TB.ok t ht;rw[fz t ht] at es;cases es;exact hs
 rfl';obtain⟨v0,A9,r0⟩:=hz.at (Ip (ss:=ss) (i:=0) (by lia));refine bH (ai.of hx) (cY (j:=0) A9) ?_;refine⟨v0,ba ss 0,rfl,r0,by decide,λl dZ=>?_⟩;have u1:=ao (o:=.lst [.int (kf (ba ss 0))]) dZ;have L1:upd H1 l (.lst [.int (kf (ba ss 0))]) l=some (.lst ([kf (ba ss 0)].map V.int)):=ar;have fl:=s1.free dZ;generalize upd H1 l (.lst [.int (kf (ba ss 0))])=H2 at u1 L1 ⊢;refine⟨zs,ai.of (u1 _ _ hx),λc hc=>?_⟩;rw[show my zs (some 1) none=zs.drop 1 from NA zs 1];have u2:=ao (o:=.lst (zs.drop 1)) hc;have c3:upd H2 c (.lst (zs.drop 1)) c=some (.lst (zs.drop 1)):=ar;have lc:l≠c:=λz=>by rw[<- z,L1] at hc;cases hc
 generalize upd H2 c (.lst (zs.drop 1))=H3 at u2 c3 ⊢;have S3:=s1.trans (u1.trans u2);refine⟨⟨_,S3.seq hS⟩,⟨_,ai.of c3⟩,Nn (xs:=xs) (ys:=zs.drop 1) (Uj H a b x l c zs ss ps ms) ⟨[kf (ba ss 0)],_,_,rfl,S3,u2 _ _ L1,c3,hz.imp λ_ _ r=>aI.same r (u1.trans u2),rfl,λt ht=>?_,λk hk=>absurd hk (ZN _)⟩ ?_ ?_ ?_⟩
 .obtain rfl:t=0:=by lia
  exact⟨_,fz 0 (by lia),Io (Um 0 (by lia))⟩
 .rintro i σ H4 ⟨_,_,_,_,s4,_,c4,_⟩;exact⟨s4.seq hS,ai.of c4⟩
 .rintro i u v σ H4 p hu hv ⟨cs,d1,d2,rfl,s4,L4,c4,nD,bh,bI,bV⟩ hp;have hi:i<ps.length:=by have:=(X6.mp hu).1;lia
  obtain⟨pt,ept,ru⟩:=hP.get hu;rw[A8 hi] at ept;cases ept;rw[List.getElem?_drop,Nat.add_comm 1 i] at hv;obtain⟨sv,esv,rv⟩:=nD.get hv;rw[Ip (by lia)] at esv;cases esv;refine mH (ah.of ar) ?_;have up:=ao (o:=.tup [u,v]) hp;generalize upd H4 p (.tup [u,v])=H5 at up ⊢;have L5:=up _ _ L4;rfl';have lst:=Uk bh;refine⟨.inl ⟨rfl,_,ai.of L5⟩,bH (ai.of L5) lst (bH (ai.of L5) lst ⟨a9,λt1 kL=>?_⟩)⟩;have ut:=ao (o:=.tup [.int (bM cs i),.int (bM cs i)]) kL;refine⟨.ref t1,u,(some (bM cs i),some (bM cs i)),aC ps i,rfl,⟨t1,rfl,ar⟩,ru.same (s4.trans (up.trans ut)),λr H6 s6 _ Uo=>?_⟩;obtain⟨m,em,cH⟩:=O0 TB hi (bI i (X9 _)) (fz (i+1) (by lia));have Up:=aI.same rv (up.trans (ut.trans s6));refine⟨v,.ref r,_,_,_,_,rfl,Up,⟨r,rfl,Uo⟩,λy H7 s7 hy=>?_⟩;have cm:=EL em;have Iq:aW (dt (ba ss (i+1)).1 (eG (some (bM cs i),some (bM cs i)) (aC ps i)).1) (dv (ba ss (i+1)).2 (eG (some (bM cs i),some (bM cs i)) (aC ps i)).2)=false/\m=(dt (ba ss (i+1)).1 (eG (some (bM cs i),some (bM cs i)) (aC ps i)).1,dv (ba ss (i+1)).2 (eG (some (bM cs i),some (bM cs i)) (aC ps i)).2):=by
   unfold gh at em;split at em
   .cases em
   .rename_i hc;cases em;exact⟨by simpa using hc,rfl⟩
  have pB:=hy.2 Iq.1;refine⟨y,m,rfl,by rw[Iq.2];exact pB,?_⟩;have S7:=up.trans (ut.trans (s6.trans s7));have L7:=S7 _ _ L4;obtain⟨n1,n2,n3⟩:=cH _ (Io cm);refine⟨_,L7,by rw[XY];exact Ze (by lia:_<=1000) (by decide),cs++[kf m],_,_,rfl,jb fl (s4.trans S7),by rw[ar,Zg];rfl,by rw[aG (Y1 lc)];exact S7 _ _ c4,nD.imp λ_ _ r=>aI.put (aI.same r S7) L7,by rw[Yh,Yx];lia,λt ht=>?_,λk hk=>?_⟩
  .by_cases e:t=i+1
   .subst e;rw[Im bh];exact n1
   .rw[v3 (by lia)];exact bI t (by lia)
  .by_cases e:k=i
   .subst e;rw[Im bh,v3 (by lia)];exact⟨n2,n3⟩
   .rw[v3 (by lia),v3 (by lia)];exact bV k (by lia)
 .rintro σ H4 ⟨cs,d1,d2,rfl,s4,L4,c4,nD,bh,bI,bV⟩;rfl';rw[acQ,show min xs.length (zs.length-1)=ps.length by lia] at bh bI bV;exact q l cs H4 s4 fl L4 bh bV (meets_of TB ht bI)
def dE(H:Hp)(v:V):Option P2->Prop
 | none=>v = .non
 | some p=>bD H v p
theorem dE.same(h:dE H v o)(s:aj H H'):dE H' v o:=by
 cases o with
 | none=>exact h
 | some p=>exact bD.same h s
inductive Uq(K:XW)(vs:List V)(H:Hp)(Q:VK)(aL:XK):Prop
 | mk(v u:V)(a b:Option P2)(_:vs=[v,u])(_:dE H v a)(_:dE H u b)(_:∀ x,dE H x (ju a b)->(x=v∨x=u)->Q x H)
theorem Ba(T:Tx K mg):Ok P w base 1 T.so (Uq K):=by
 refine bb GW ?_;rintro _ _ _ _ H _ _ _ hr ⟨v,u,a,b,rfl,ha,hb,q⟩;refine⟨_,(au (aK (PW.pt (cf (cS (aa 0)) (dO (cS (aa 1))))) (ay (aA (iX (cS (aa 0)) (aa 1) (aa 0)))) aJ)
  (ay (aA (aY (PX rfl (gb hr)) (by rfl) T.kH jV (ae (aa 0) (ae (aa 1) ag)))))),?_⟩
 rcases a with _|a<;>rcases b with _|b
 .obtain rfl:v = .non:=ha;obtain rfl:u = .non:=hb;rfl';exact q _ rfl (.inl rfl)
 .obtain rfl:v = .non:=ha;obtain⟨r,rfl,cc⟩:=id hb;rfl';exact q _ hb (.inr rfl)
 .obtain rfl:u = .non:=hb;obtain⟨r,rfl,cc⟩:=id ha;rfl';exact q _ ha (.inl rfl)
 .obtain⟨r,rfl,cc⟩:=id ha;obtain⟨r2,rfl,gy⟩:=id hb;rfl';refine⟨a,cc,b,gy,?_⟩;by_cases hl:fe b a=true
  .rw[if_pos hl];exact q _ (by show bD H _ (ff a b);unfold ff;rw[if_pos hl];exact hb) (.inr rfl)
  .rw[if_neg hl];exact q _ (by show bD H _ (ff a b);unfold ff;rw[if_neg hl];exact ha) (.inl rfl)
inductive Ur(K:XW)(vs:List V)(H:Hp)(Q:VK)(aL:XK):Prop
 | mk(v:V)(a:Option P2)(b:Int)(_:vs=[v,.int b])(_:dE H v a)(_:∀ x H',aj H H'->dE H' x (oJ a b)->Q x H')
theorem Ir(T:Tx K mg):Ok P w base 1 T.sq (Ur K):=by
 refine bb GX ?_;rintro _ _ _ _ _ _ _ _ _ ⟨v,a,b,rfl,ha,q⟩;refine⟨_,(ay (aA (iX (cS (aa 0)) bq (aT (ae (aH bE (ax (aa 0) af) (aa 1)) (ae (ax (aa 0) af) ag)))))),?_⟩;rcases a with _|a
 .obtain rfl:v = .non:=ha;rfl';exact q _ _ (aj.refl _) rfl
 .obtain⟨r,rfl,cc⟩:=id ha;rfl';refine ak (ah.of cc) rfl ?_;rfl';refine ak (ah.of cc) rfl ⟨a9,λp hp=>q _ _ (ao hp) ⟨p,rfl,ar⟩⟩
inductive Us(K:XW)(vs:List V)(H:Hp)(Q:VK)(aL:XK):Prop
 | mk(a b:Ye)(xs ys:List V)(ps:List P2)(ms:List Mk)(_:vs=[.ref a,.ref b])(_:ai K H a xs)(_:dU H xs ps)(_:ai K H b ys)(_:aw (dM H) ys ms)(_:cZ ps)(_:ps.length<=900)(_:ms.length<=1000)(_:(∀ m∈ms,m.1<=ps.length))(_:∀ l zs ts H',aj H H'->H l=none->H' l=some (.lst zs)->aw (dE H') zs ts->ts.length=ps.length+1->j8 ps ms (dz ts)->Q (.ref l) H')
inductive nE(P:Nat->(Nat->Option P2)->Prop)(H:Hp)(a b l:Ye)(n:Nat)(i:Nat)(σ:St)(H1:Hp):Prop
 | mk(zs:List V)(ts:List (Option P2))(e1 e2 e3:Option V)(_:σ=[some (.ref a),some (.ref b),some (.ref l),e1,e2,e3])(_:aj H H1)(_:H1 l=some (.lst zs))(_:aw (dE H1) zs ts)(_:ts.length=n+1)(_:P i (dz ts))
theorem dE.put(h:dE H v o)(hl:H l=some (.lst ys)):dE (upd H l (.lst zs)) v o:=by
 cases o with
 | none=>exact h
 | some p=>exact bD.put h hl
theorem aw.Iu{α:Type}{R:V->α->Prop}{x:V}{a:α}(r:R x a):∀ {xs:List V} {as:List α} (j:Nat),aw R xs as->aw R (xs.set j x) (as.set j a)
 | [],[],_,_=>trivial
 | _::_,_::_,0,h=>⟨r,h.2⟩
 | _::_,_::_,j+1,h=>⟨h.1,aw.Iu r j h.2⟩
 | [],_::_,_,h=>h.elim
 | _::_,[],_,h=>h.elim
theorem pC(h:aw (dE H) zs ts)(ht:t<ts.length):∃ v,cQ zs (t:Int)=some v/\dE H v (dz ts t):=by obtain⟨v,hv,r⟩:=h.at (X0 ht);refine⟨v,cY hv,?_⟩;unfold dz;rw[XZ,X0 ht];exact r
theorem Bb(h:t<n):ip n (t:Int)=some t:=by unfold ip;rw[if_pos (by lia),if_pos (by lia),YS]
theorem Bc(dZ:H l=none)(s:aj H H1)(hl:H1 l=some (.lst zs))(hz:aw (dE H1) zs ts)(hlen:ts.length=n+1)(hv:dE H1 v x)(ht:t<n+1)(hP:P i (jv (dz ts) t x)):nE P H a b l n i [some (.ref a),some (.ref b),some (.ref l),d1,d2,d3] (upd H1 l (.lst (zs.set t v))) :=
 ⟨zs.set t v,ts.set t x,d1,d2,d3,rfl,jb dZ s,ar,(aw.Iu hv t hz).imp λ_ _ r=>r.put hl,by rw[aeV];exact hlen,by rw[O2 (by lia)];exact hP⟩
theorem Ut(n:Nat):lh ((n:Int)-1) (-1) (-1)=n:=by unfold lh Y2;simp only[show ¬ ((-1:Int) > 0) by lia,if_false,show (- (-1:Int))=1 by lia,afS];split<;>lia
theorem Uu(T:Tx K mg):Ok P w base 2 T.sr (Us K):=by
 refine bb ni ?_;rintro _ _ _ _ H _ Q _ hr ⟨a,b,xs,ys,ps,ms,rfl,hS,hP,hT,hM,az,hn,hm,ht,q⟩;refine⟨_,(au (k8 (i:=2) (bz.mk (fr:=[]) (ys:=[]) rfl (by decide +kernel) rfl (by decide +kernel) rfl rfl .nil .nil (by decide) rfl) rfl ni.nd rfl rfl (fE rfl T.dg (ae (aH bE (aY cX (by rfl) T.cT cR (ae (aa 0) ag)) af) ag)) (λC s2 H2 ex pn=>⟨cD,bq⟩))
  (au (cW YM rfl (xJ rfl T.vL (ae (aa 1) ag)) (jP rfl (dF (cp 3 ni.nd) (dF (cp 4 ni.nd) jN))) (ay (aK (fg (ax (ax (aa 4) af) af)) (ay (wF (aF (Ba T) hr (ae (ax (aa 2) (ax (aa 4) af)) (ae (aT (ae (ax (ax (aa 4) af) af) (ae (aa 3) ag))) ag))) (wD (aa 2) (ax (aa 4) af) set_list))) aJ)))
  (au (cW YM rfl (fE rfl T.dg (ae (aY cX (by rfl) T.cT cR (ae (aa 0) ag)) ag)) (cp 5 ni.nd) (ay (wF (aF (Ba T) hr (ae (ax (aa 2) (aH bE (aa 5) af)) (ae (aF (Ir T) hr (ae (ax (aa 2) (aa 5)) (ae (ax (ax (aa 0) (aa 5)) af) ag))) ag))) (wD (aa 2) (aH bE (aa 5) af) set_list))))
  (au (cW YM rfl (Nw rfl T.dg (ae (aH dA (aY cX (by rfl) T.cT cR (ae (aa 0) ag)) af) (ae (gG gU af) (ae (gG gU af) ag)))) (cp 5 ni.nd) (ay (wF (aF (Ba T) hr (ae (ax (aa 2) (aa 5)) (ae (aF (Ir T) hr (ae (ax (aa 2) (aH bE (aa 5) af)) (ae (gG gU (ax (ax (aa 0) (aa 5)) af)) ag))) ag))) (wD (aa 2) (aa 5) set_list))))
  (ay (aA (aa 2))))))),?_⟩
 have l1:=hP.len;have l2:=hM.len;refine aD (λσ H1=>∃ l,σ=[some (.ref a),some (.ref b),some (.ref l),none,none,none]/\aj H H1/\H l=none/\H1 l=some (.lst (YT (ps.length+1) .non))) (λN hN=>?_) ?_
 .rfl';refine⟨_,dR hS,by lia,by lia,?_⟩;rw[l1,show ((ps.length:Int)+1).toNat=ps.length+1 by lia];refine bR gK (by rw[XY,Yb];exact X5 (by lia:_<=901) (by decide)) (n9 (p:=λ_=>true) (f:=λ_=>.non) trivial (λx _ Q h=>?_) (λx _ _ Q h=>?_) ?_)
  .rfl';exact h
  .rfl';exact h
  rw[Yj,filter_tt];intro l hl;refine hN _ _ ⟨l,rfl,ao hl,hl,?_⟩;rw[ar]
  congr 2
  refine aap λk=>?_;rw[Yf,Yf,ZW];by_cases hk:k<ps.length+1
  .rw[YN hk,if_pos hk];rfl
  .rw[Y9 (by rw[Yb];lia),if_neg hk];rfl
 rintro _ yR σ H1 ⟨l,rfl,s1,dZ,oP⟩;subst yR;refine aD (nE (T1 ps ms) H a b l ps.length ms.length) (λN hN=>?_) ?_
 .rfl';refine⟨⟨_,s1.seq hT⟩,xP (xs:=ys) (nE (T1 ps ms) H a b l ps.length) ⟨_,YT (ps.length+1) none,_,_,_,rfl,s1,oP,?_,by rw[aaf],by rw[O3];exact T1.nil⟩ ?_ ?_ ?_⟩
  .have:∀ k,aw (dE H1) (YT k .non) (YT k none):=λk=>by
    induction k with
    | zero=>exact trivial
    | succ k ih=>exact⟨rfl,ih⟩
   exact this _
  .rintro i σ H2 _ ⟨_,_,_,_,_,_,s2,_⟩;exact s2.seq hT
  .rintro i x σ H2 p hx ⟨zs,ts,d1,d2,d3,rfl,s2,aU,hz,fS,pE⟩ hp;obtain⟨m,nF,tp,sp,rfl,h1,h2⟩:=hM.get hx;have kB:=ht m (Yo nF);have up:=ao (o:=.tup [.int i,.ref tp]) hp;refine mH (ah.of ar) ?_;generalize upd H2 p (.tup [.int i,.ref tp])=H3 at up ⊢;have s3:=s2.trans up;have g1:=s3 _ _ h1;have g2:=s3 _ _ h2;have dj:=up _ _ aU;have cP:=hz.imp λ_ _ r=>r.same up;obtain⟨mt,lo,hi⟩:=m;rfl';refine ak (ah.of g1) rfl (ak (ah.of g2) rfl ?_);cases hi with
   | none =>
    rfl';exact⟨zs,ts,_,_,_,rfl,s3,dj,cP,fS,pE.skip nF rfl⟩
   | some h =>
    rfl';obtain⟨v,hv,rv⟩:=pC cP (t:=mt) (by dsimp only at kB;lia);refine ak (ah.of g1) rfl (bH (ai.of dj) hv (ak (ah.of g1) rfl (ak (ah.of g2) rfl ?_)));rfl';refine⟨a9,λt1 kL=>?_⟩;have ut:=ao (o:=.tup [.int h,.int i]) kL;have S4:=s3.trans ut;refine⟨v,.ref t1,_,some (h,(i:Int)),rfl,rv.same ut,⟨t1,rfl,ar⟩,λy hy _=>?_⟩;refine ak (ah.of (ut _ _ g1)) rfl ?_;exact⟨zs,_,rfl,ut _ _ dj,mt,Bb (by rw[hz.len,fS];dsimp only at kB;lia),Bc dZ S4 (ut _ _ dj) (cP.imp λ_ _ r=>r.same ut) fS hy (by dsimp only at kB;lia) (pE.put nF rfl)⟩
  .rintro σ H2 h;rw[l2] at h;exact hN _ _ h
 rintro _ yR σ H2 h2;subst yR;refine aD (nE (T2 ps ms) H a b l ps.length ps.length) (λN hN=>?_) ?_
 .obtain⟨zs,ts,d1,d2,d3,rfl,s2,aU,hz,fS,pE⟩:=h2;rfl';refine⟨_,dR (s2.seq hS),?_⟩;rw[l1];refine⟨by lia,by lia,?_⟩;rw[YS];refine kY (nE (T2 ps ms) H a b l ps.length) ⟨zs,ts,d1,d2,d3,rfl,s2,aU,hz,fS,pE.two⟩ ?_ (λσ H3 h=>hN _ _ h);rintro i σ H3 hi ⟨zs,ts,d1,d2,d3,rfl,s3,dj,cP,fS,Uv⟩;have zl:=cP.len;obtain⟨v,hv,rv⟩:=pC cP (t:=i+1) (by lia);obtain⟨u,hu,ru⟩:=pC cP (t:=i) (by lia);obtain⟨w,hw,tw,rfl,v5⟩:=hP.at (A8 hi);rfl';rw[show (0:Int)+(i:Int)=((i:Nat):Int) by lia,show ((i:Nat):Int)+1=((i+1:Nat):Int) by lia];refine bH (ai.of dj) hv (bH (ai.of dj) hu (bH (s3.seq hS) (cY hw) (ak (ah.of (s3 _ _ v5)) rfl ?_)));refine⟨u,_,_,rfl,ru,λy H4 s4 hy=>?_⟩;refine⟨v,y,_,_,rfl,rv.same s4,hy,λz Be _=>?_⟩;exact⟨zs,s4 _ _ dj,i+1,Bb (by lia),Bc dZ (s3.trans s4) (s4 _ _ dj) (cP.imp λ_ _ r=>r.same s4) fS Be (by lia) (Uv.step az ht hi)⟩
 rintro _ yR σ H3 h3;subst yR;refine aD (nE (λi=>T3 ps ms (ps.length-i)) H a b l ps.length ps.length) (λN hN=>?_) ?_
 .obtain⟨zs,ts,d1,d2,d3,rfl,s2,aU,hz,fS,pE⟩:=h3;rfl';refine⟨_,dR (s2.seq hS),?_⟩;rw[l1,Ut];refine⟨by lia,by lia,Nz (nE (λi=>T3 ps ms (ps.length-i)) H a b l ps.length) ⟨zs,ts,d1,d2,d3,rfl,s2,aU,hz,fS,pE.three⟩ ?_ (λσ H3 h=>hN _ _ h)⟩;rintro i σ H3 hi ⟨zs,ts,d1,d2,d3,rfl,s3,dj,cP,fS,v7⟩;have zl:=cP.len;obtain⟨j,hj⟩:∃ j,ps.length=j+1+i:=⟨ps.length-1-i,by lia⟩
  obtain⟨v,hv,rv⟩:=pC cP (t:=j+1) (by lia);obtain⟨u,hu,ru⟩:=pC cP (t:=j) (by lia);obtain⟨w,hw,tw,rfl,v5⟩:=hP.at (A8 (ps:=ps) (i:=j) (by lia));rfl';rw[show (ps.length:Int)-1+(i:Int) * -1=((j:Nat):Int) by lia,show ((j:Nat):Int)+1=((j+1:Nat):Int) by lia];refine bH (ai.of dj) hu (bH (ai.of dj) hv (bH (s3.seq hS) (cY hw) (ak (ah.of (s3 _ _ v5)) rfl ?_)));rfl';refine⟨v,_,_,rfl,rv,λy H4 s4 hy=>?_⟩;refine⟨u,y,_,_,rfl,ru.same s4,hy,λz Be _=>?_⟩;refine⟨zs,s4 _ _ dj,j,Bb (by lia),Bc dZ (s3.trans s4) (s4 _ _ dj) (cP.imp λ_ _ r=>r.same s4) fS Be (by lia) ?_⟩;show T3 ps ms (ps.length-(i+1)) _;rw[show ps.length-(i+1)=j by lia];have v7:T3 ps ms (ps.length-i) (dz ts):=v7;rw[show ps.length-i=j+1 by lia] at v7;exact v7.step az ht (by lia)
 rintro _ yR σ H4 ⟨zs,ts,d1,d2,d3,rfl,s4,A6,nD,fS,tJ⟩;subst yR;rw[adq] at tJ;rfl';exact q l zs ts H4 s4 dZ A6 nD fS tJ.tops
inductive Uw(K:XW)(vs:List V)(H:Hp)(Q:VK)(aL:XK):Prop
 | mk(a b:Ye)(zs ys:List V)(ts:List (Option P2))(ms:List Mk)(_:vs=[.ref a,.ref b])(_:ai K H a zs)(_:aw (dE H) zs ts)(_:ai K H b ys)(_:aw (dM H) ys ms)(_:(∀ m∈ms,m.1<ts.length))(_:(qM ms (dz ts)->∀ H',aj H H'->Q .non H'))(_:(∀ (j:Nat) m l v k,ms[j]?=some m->m.2.1=some l->dz ts m.1=some (v,k)->v<l->∀ p H',aj H H'->H p=none->H' p=some (.tup [.int k,.int j])->Q (.ref p) H'))
inductive Ux(H:Hp)(a b:Ye)(ts:List (Option P2))(ms:List Mk)(i:Nat)(σ:St)(H1:Hp):Prop
 | mk(e1 e2 e3:Option V)(_:σ=[some (.ref a),some (.ref b),e1,e2,e3])(_:aj H H1)(_:qM (ms.take i) (dz ts))
theorem Uy(T:Tx K mg):Ok P w base 1 T.sx (Uw K):=by
 refine bb rD ?_;rintro _ _ _ _ H _ _ _ _ ⟨a,b,zs,ys,ts,ms,rfl,hA,hZ,hT,hM,ht,q0,q⟩;refine⟨_,(au (cW YM rfl (xJ rfl T.vL (ae (aa 1) ag)) (jP rfl (dF (cp 2 rD.nd) (dF (cp 3 rD.nd) jN))) (au (aE 4 rD.nd (ax (aa 0) (ax (aa 3) af)))
  (ay (aK (PW.pt (iW (fg (aa 4)) (iW (fg (ax (ax (aa 3) af) af)) (jM (y0 (ax (ax (aa 3) af) af) (ax (aa 4) af)))))) (ay (aA (aT (ae (ax (aa 4) af) (ae (aa 2) ag))))) aJ))))
  (ay (aA bq))),?_⟩
 have l1:=hZ.len;have l2:=hM.len;rfl';refine⟨⟨_,hT⟩,xP (xs:=ys) (Ux H a b ts ms) ⟨_,_,_,rfl,aj.refl _,λm h=>by simp at h⟩ ?_ ?_ ?_⟩
 .rintro i σ H2 _ ⟨_,_,_,_,s2,_⟩;exact s2.seq hT
 .rintro i x σ H2 p hx ⟨d1,d2,d3,rfl,s2,bT⟩ hp;obtain⟨m,nF,tp,sp,rfl,h1,h2⟩:=hM.get hx;have kB:=ht m (Yo nF);have up:=ao (o:=.tup [.int i,.ref tp]) hp;refine mH (ah.of ar) ?_;generalize upd H2 p (.tup [.int i,.ref tp])=H3 at up ⊢;have s3:=s2.trans up;have g1:=s3 _ _ h1;have g2:=s3 _ _ h2;have next:(∀ l v k,m.2.1=some l->dz ts m.1=some (v,k)->l<=v)->qM (ms.take (i+1)) (dz ts):=λhh n hn=>by
   rw[Zi,nF] at hn;rcases Yz.mp hn with z|z
   .exact bT n z
   .obtain rfl:n=m:=by simpa using z
    exact hh
  obtain⟨v,hv,rv⟩:=pC hZ kB;obtain⟨mt,lo,hi⟩:=m;rfl';refine ak (ah.of g1) rfl (bH (s3.seq hA) hv ?_);cases et:dz ts mt with
  | none =>
   rw[show dz ts (mt,lo,hi).1=none from et] at rv;obtain rfl:v = .non:=rv;rfl';exact⟨_,_,_,rfl,s3,next λl v k _ e=>by rw[show dz ts (mt,lo,hi).1=none from et] at e;cases e⟩
  | some q2 =>
   obtain⟨w,k⟩:=q2;rw[show dz ts (mt,lo,hi).1=some (w,k) from et] at rv;obtain⟨rt,rfl,hrt⟩:=rv;rfl';refine ak (ah.of g1) rfl (ak (ah.of g2) rfl ?_);cases lo with
   | none =>
    rfl';exact⟨_,_,_,rfl,s3,next λl v k e _=>by cases e⟩
   | some l =>
    rfl';refine ak (ah.of g1) rfl (ak (ah.of g2) rfl (ak (ah.of (s3 _ _ hrt)) rfl ?_));rfl';refine aQ (λhc=>?_) λhc=>?_
    .exact ak (ah.of (s3 _ _ hrt)) rfl ⟨a9,λr b5=>q i _ l w k nF rfl et hc r _ (s3.trans (ao b5)) (s3.free b5) ar⟩
    .exact⟨_,_,_,rfl,s3,next λl' v' k' e1 e2=>by
      cases e1;rw[show dz ts (mt,some l,hi).1=some (w,k) from et] at e2;cases e2;lia⟩
 .rintro σ H2 ⟨d1,d2,d3,rfl,s2,bT⟩;rfl';rw[l2,Zr] at bT;exact q0 bT _ s2
inductive df(H:Hp)(v:V)(c:Cl):Prop
 | mk(t a b:Ye)(_:v = .ref t)(_:H t=some (.tup [.ref a,.ref b]))(_:H a=some (.tup [ev c.1.1,.int c.1.2]))(_:H b=some (.tup [ev c.2.1,.int c.2.2]))
theorem df.same(h:df H v r)(s:aj H H'):df H' v r:=let ⟨t,a,b,e,h1,h2,h3⟩:=h;⟨t,a,b,e,s _ _ h1,s _ _ h2,s _ _ h3⟩
theorem df.put(h:df H v r)(hl:H l=some (.lst ys)):df (upd H l o) v r:=by
 obtain⟨t,a,b,e,h1,h2,h3⟩:=h;have nl:∀ (z:Ye) (vs:List V),H z=some (.tup vs)->z≠l:=λz vs e1 e2=>by rw[e2,hl] at e1;cases e1
 exact⟨t,a,b,e,by rw[aG (nl _ _ h1)];exact h1,by rw[aG (nl _ _ h2)];exact h2,by rw[aG (nl _ _ h3)];exact h3⟩
theorem Uz(h:dE H v o)(hl:H l=some (.lst ys))(k:∀ b o,b≠l->H b=some o->H' b=some o):dE H' v o:=by
 cases o with
 | none=>exact h
 | some p =>
  obtain⟨t,e,a⟩:=h;exact⟨t,e,k _ _ (λz=>by rw[z,hl] at a;cases a) a⟩
inductive pF(ps:List P2)(gs:List Gp)(i j:Nat)(H:Hp)(l:Ye):Prop
 | mk(zs:List V)(cs:List Cl)(_:H l=some (.lst zs))(_:aw (df H) zs cs)(_:cs.length<=8 * i+j)(_:vo ps gs cs)(_:∀ i' j' g h,gs[i']?=some g->gs[j']?=some h->(i'<i∨(i'=i/\j'<j))->jx ps g h cs)
theorem pF.same(h:pF ps gs i j H l)(s:aj H H'):pF ps gs i j H' l:=let ⟨zs,cs,a,b,c1,c2,c3⟩:=h;⟨zs,cs,s _ _ a,b.imp λ_ _ x=>x.same s,c1,c2,c3⟩
inductive UA(K:XW)(vs:List V)(H:Hp)(Q:VK)(aL:XK):Prop
 | mk(a b:Ye)(xs ys:List V)(ps:List P2)(gs:List Gp)(_:vs=[.ref a,.ref b])(_:ai K H a xs)(_:dU H xs ps)(_:cZ ps)(_:ps.length<=900)(_:ai K H b ys)(_:aw (pA H) ys gs)(_:gs.length<=8)(_:(∀ g∈gs,g.2.length<=1000/\∀ m∈g.2,m.1<=ps.length))(_:∀ l zs cs H',aj H H'->H l=none->H' l=some (.lst zs)->aw (df H') zs cs->cs.length<=64->vo ps gs cs->(∀ g∈gs,∀ h∈gs,jx ps g h cs)->Q (.ref l) H')
inductive Iv(H:Hp)(a b l:Ye)(ps:List P2)(gs:List Gp)(i:Nat)(σ:St)(H1:Hp):Prop
 | mk(e1 e2 e3 e4 e5 e6:Option V)(_:σ=[some (.ref a),some (.ref b),some (.ref l),e1,e2,e3,e4,e5,e6])(_:aj H H1)(_:pF ps gs i 0 H1 l)
inductive UB(H H0:Hp)(a b l:Ye)(nm mk tp:V)(ps:List P2)(gs:List Gp)(i j:Nat)(σ:St)(H1:Hp):Prop
 | mk(e4 e5 e6:Option V)(_:σ=[some (.ref a),some (.ref b),some (.ref l),some nm,some mk,some tp,e4,e5,e6])(_:aj H H1)(_:(∀ b o,b≠l->H0 b=some o->H1 b=some o))(_:pF ps gs i j H1 l)
theorem UC(T:Tx K mg):Ok P w base 3 T.sD (UA K):=by
 refine bb kC ?_;rintro _ _ _ _ H _ _ _ hr ⟨a,b,xs,ys,ps,gs,rfl,hS,hP,az,hn,hG,hA,h7,hm,q⟩;refine⟨_,(au (aE 2 kC.nd (ck ag))
  (au (cW YM rfl (cu (aa 1)) (jP rfl (dF (cp 3 kC.nd) (dF (cp 4 kC.nd) jN))) (au (aE 5 kC.nd (aF (Uu T) hr (ae (aa 0) (ae (aa 4) ag))))
    (ay (cW YM rfl (cu (aa 1)) (jP rfl (dF (cp 6 kC.nd) (dF (cp 7 kC.nd) jN))) (au (aE 8 kC.nd (aF (Uy T) hr (ae (aa 5) (ae (aa 7) ag))))
      (ay (aK (fg (aa 8)) (ay (fD (i9 YW ZT ZU qk (aa 2) (ae (aT (ae (aT (ae (aa 3) (ae (ax (ax (aa 4) (ax (aa 8) af)) af) ag))) (ae (aT (ae (aa 6) (ae (ax (ax (aa 7) (ax (aa 8) af)) af) ag))) ag))) ag)))) aJ)))))))
  (ay (aA (aa 2))))),?_⟩
 have yl:=hA.len;refine aD (λσ H1=>∃ l,σ=[some (.ref a),some (.ref b),some (.ref l),none,none,none,none,none,none]/\aj H H1/\H l=none/\H1 l=some (.lst [])) (λN hN=>?_) ?_
 .rfl';exact⟨by decide,λl hl=>hN _ _ ⟨l,rfl,ao hl,hl,ar⟩⟩
 rintro _ yR σ H1 ⟨l,rfl,s1,fl,hl⟩;subst yR;refine aD (λσ H2=>Iv H a b l ps gs ys.length σ H2) (λN hN=>?_) ?_
 .rfl';refine⟨⟨_,s1.seq hG⟩,kZ (xs:=ys) (Iv H a b l ps gs) ⟨_,_,_,_,_,_,rfl,s1,[],[],hl,trivial,YB _,λ_ h=>(nomatch h),λ_ _ _ _ _ _ h=>by lia⟩ ?_ ?_ (λσ H' h=>hN _ _ h)⟩
  .rintro i σ H2 _ ⟨_,_,_,_,_,_,_,s2,_⟩;exact s2.seq hG
  .rintro i x σ H2 hx ⟨_,_,_,_,_,_,rfl,s2,h2⟩;obtain⟨r,hr,gg,k,zs,rfl,h3,h4,h5⟩:=hA.get hx;have Bf:=hm r (Yo hr);refine mH (ah.of (s2 _ _ h3)) ?_;rfl';refine⟨a,k,xs,zs,ps,r.2,rfl,s2.seq hS,hP.same s2,ai.of (s2 _ _ h4),h5.imp λ_ _ x=>x.same s2,az,hn,Bf.1,Bf.2,λtp us ts H3 s3 Iw UD UE fS TT=>?_⟩;have S3:=s2.trans s3;rfl';refine⟨⟨_,S3.seq hG⟩,kZ (xs:=ys) (UB H H3 a b l (ev r.1) (.ref k) (.ref tp) ps gs i) ⟨_,_,_,rfl,S3,λ_ _ _ e=>e,h2.same s3⟩ ?_ ?_ ?_⟩
   .rintro j σ H4 _ ⟨_,_,_,_,s4,_,_⟩;exact s4.seq hG
   .rintro j y σ H4 hy ⟨_,_,_,rfl,s4,b4,ws,cs,h6,nG,h8,h9,pG⟩;obtain⟨r',v8,XA,k',UG,rfl,g3,g4,g5⟩:=hA.get hy;have Bg:=hm r' (Yo v8);obtain⟨ls,_,hls,_⟩:=h2;have UH:tp≠l:=λz=>by rw[z,hls] at Iw;cases Iw
    have UI:=b4 _ _ UH UD;have nD:=UE.imp λ_ _ x=>Uz x (s3 _ _ hls) b4;have l6:∀ wa:List Cl,(∀ i' j' g h,gs[i']?=some g->gs[j']?=some h->(i'<i∨(i'=i/\j'<j))->jx ps g h wa)->jx ps r r' wa->∀ i' j' g h,gs[i']?=some g->gs[j']?=some h->(i'<i∨(i'=i/\j'<j+1))->jx ps g h wa:=λwa UJ Iy i' j' g h a1 a2 a3=>by
     by_cases hz:i'=i/\j'=j
     .obtain⟨rfl,rfl⟩:=hz;rw[hr] at a1;rw[v8] at a2;cases a1;cases a2;exact Iy
     .exact UJ i' j' g h a1 a2 (by lia)
    refine mH (ah.of (s4 _ _ g3)) ?_;rfl';refine⟨tp,k',us,UG,ts,r'.2,rfl,ai.of UI,nD,ai.of (s4 _ _ g4),g5.imp λ_ _ x=>x.same s4,λm cH=>by have:=Bg.2 m cH;lia,λbT H5 s5=>?_,λjj m lo v kk e1 e2 e3 e4 p H5 s5 fp hp=>?_⟩
    .rfl';exact⟨_,_,_,rfl,s4.trans s5,λb o hb e=>s5 _ _ (b4 b o hb e),pF.same ⟨ws,cs,h6,nG,by lia,h9,l6 cs pG λm m1 n n1 hc=>absurd hc (QK TT Bf.2 Bg.2 bT m1 n1)⟩ s5⟩
    .obtain⟨i',a',rfl,cF,hc⟩:=TT.clash (Bg.2 m (Yo e1)) e3 e2 e4;have tH:=s5 _ _ h6;have S5:=s4.trans s5;obtain⟨v1,yH,t1,w1,rfl,m1,_⟩:=(h5.imp λ_ _ x=>dM.same x S5).at cF;obtain⟨v2,yI,t2,w2,rfl,m2,_⟩:=(g5.imp λ_ _ x=>dM.same x S5).at e1;rfl';refine⟨.inl ⟨rfl,_,ai.of tH⟩,ak (ah.of hp) (v:=.int i') rfl (bH (ai.of (S5 _ _ h4)) (cY yH) (ak (ah.of m1) (v:=.int a'.1) rfl ⟨a9,λp1 kK=>?_⟩))⟩;have u1:=ao (o:=.tup [ev r.1,.int a'.1]) kK;refine ak (ah.of (u1 _ _ hp)) (v:=.int jj) rfl (bH (ai.of (u1 _ _ (S5 _ _ g4))) (cY yI) (ak (ah.of (u1 _ _ m2)) (v:=.int m.1) rfl ⟨a9,λp2 fJ=>⟨a9,λp3 tI=>?_⟩⟩));have u2:=ao (o:=.tup [ev r'.1,.int m.1]) fJ;have u3:=ao (o:=.tup [.ref p1,.ref p2]) tI;have U:=u1.trans (u2.trans u3);have Bh:=U _ _ tH;have cq:df (upd (upd (upd H5 p1 (.tup [ev r.1,.int a'.1])) p2 (.tup [ev r'.1,.int m.1])) p3 (.tup [.ref p1,.ref p2])) (.ref p3) ((r.1,a'.1),(r'.1,m.1)):=⟨p3,p1,p2,rfl,ar,u3 _ _ (u2 _ _ ar),u3 _ _ ar⟩
     have wl:ws.length<=100:=by have e8:=nG.len;have b1:=(X6.mp hr).1;have b2:=(X6.mp v8).1;lia
     refine⟨ws,Bh,Ze wl (by decide),_,_,_,rfl,jb fl (S5.trans U),λb o hb e=>by rw[aG hb];exact U _ _ (s5 _ _ (b4 b o hb e)),_,cs++[((r.1,a'.1),(r'.1,m.1))],ar,aw.app (nG.imp λ_ _ x=>(x.same (s5.trans U)).put Bh) ⟨cq.put Bh,trivial⟩,by rw[Yh,Yx];lia,λc tV=>?_,l6 _ (λi' j' g h a1 a2 a3=>(pG i' j' g h a1 a2 a3).more) λ_ _ _ _ _=>⟨_,Ym _ (.head _),rfl,rfl⟩⟩;rcases Yz.mp tV with z|z
     .exact h9 c z
     .rw[YG.mp z];exact⟨r,Yo hr,r',Yo v8,a',Yo cF,m,Yo e1,rfl,hc⟩
   .rintro σ H4 ⟨_,_,_,rfl,s4,_,ws,cs,h6,nG,h8,h9,pG⟩;exact⟨_,_,_,_,_,_,rfl,s4,ws,cs,h6,nG,by lia,h9,λi' j' g h a1 a2 a3=>pG i' j' g h a1 a2 (by have:=(X6.mp a2).1;lia)⟩
 rintro _ yR σ H2 ⟨_,_,_,_,_,_,rfl,s2,ws,cs,h6,nG,h8,h9,pG⟩;subst yR;rfl';exact q l ws cs H2 s2 fl h6 nG (by lia) h9 λg hg h hh=>by obtain⟨i',cF⟩:=Zh.mp hg;obtain⟨j',xU⟩:=Zh.mp hh;exact pG i' j' g h cF xU (.inl (by have:=(X6.mp cF).1;lia))
theorem Iz(h:Q (!decide (o=some e))):neT (.int e) (ev o) Q:=by
 cases o with
 | none=>exact h
 | some x =>
  show if ¬ e=x then Q true else Q false
  by_cases z:e=x
  .subst z;rw[if_neg (λh=>h rfl)];simpa using h
  .rw[if_pos z];have:(some x:En)≠some e:=λh=>z (Option.some.inj h).symm;simpa [this] using h
theorem IA(h:Q (decide (o=o'))):eqT (ev o) (ev o') Q:=by
 cases o with
 | none=>cases o'<;>exact h
 | some x =>
  cases o' with
  | none=>exact h
  | some y =>
   show if x=y then Q true else Q false
   by_cases z:x=y
   .subst z;rw[if_pos rfl];simpa using h
   .rw[if_neg z];have:(some x:En)≠some y:=λh=>z (Option.some.inj h);simpa [this] using h
inductive UK(H:Hp)(v:V)(s:En × Nat):Prop
 | mk(r:Ye)(_:v = .ref r)(_:H r=some (.tup [ev s.1,.int s.2]))
theorem aw.ints(h:aw (λv (n:Int)=>v=V.int n) zs ns):zs=ns.map V.int:=by
 induction zs generalizing ns with
 | nil=>cases ns with|nil=>rfl|cons _ _=>exact h.elim
 | cons z zs ih=>cases ns with
  | nil=>exact h.elim
  | cons n ns=>rw[Ys,<- ih h.2,h.1]
theorem IB:∀ {xs ys:List Int},xs.Nodup->(∀ x∈xs,x∈ys)->xs.length<=ys.length
 | [],_,_,_=>YB _
 | x::xs,ys,h,k=>by obtain⟨h1,h2⟩:=Zq.mp h;have hx:=k x (.head _);have ih:=IB (ys:=ys.erase x) h2 λy hy=>(adD (λz=>h1 (by rw[<- z];exact hy))).mpr (k y (.tail _ hy));rw[acB hx] at ih;have:=ac6 hx;rw[YY];lia
inductive UL(K:XW)(vs:List V)(H:Hp)(Q:VK)(aL:XK):Prop
 | mk(l:Ye)(e:Int)(zs:List V)(cs:List Cl)(_:vs=[.ref l,.int e])(_:H l=some (.lst zs))(_:aw (df H) zs cs)(_:cs.length<=64)(_:∀ r ys H',aj H H'->H r=none->H' r=some (.lst ys)->aw (df H') ys (wo e cs)->Q (.ref r) H')
theorem IC(T:Tx K mg):Ok P w base 1 T.iJ (UL K):=by
 refine bb G1 ?_;rintro _ _ _ _ H _ Q _ hr ⟨l,e,zs,cs,rfl,hl,hC,hn,q⟩;refine⟨_,(ay (aA (cE (bz.mk (fr:=[1]) (ys:=["eye"]) rfl (by decide +kernel) rfl (by decide +kernel) rfl rfl (.cons rfl .nil) (.cons rfl rfl rfl rfl .nil) (by decide) rfl) rfl (cu (aa 0)) (λC s2 H2 ex pn=>⟨(gd (PW.pt (iW (kz (aa 1) (b0 (K:=K) (b0 (K:=K) (aa 0) af) af)) (jM (kz (aa 1) (b0 (K:=K) (b0 (K:=K) (aa 0) af) af)))))),(aa 0)⟩)))),?_⟩;have zl:=hC.len;rfl';refine⟨⟨_,ai.of hl⟩,bR eo (X5 (by lia:zs.length<=64) (by decide)) (oI (R:=df H) (R':=df H) (p:=λc=>!gn e c) (f:=λc=>c) (ai.of hl) hC (λx c r Q h=>?_) (λx c hp r Q h=>?_) λys hy=>?_)⟩
 .obtain⟨t,a,b,rfl,h1,h2,h3⟩:=r;rfl';refine ak (ah.of h1) (v:=.ref a) rfl (ak (ah.of h2) (v:=ev c.1.1) rfl (Iz ?_));unfold gn at h;by_cases z:c.1.1=some e
  .rw[decide_eq_true z] at h ⊢;exact h
  .rw[decide_eq_false z] at h ⊢;refine ak (ah.of h1) (v:=.ref b) rfl (ak (ah.of h3) (v:=ev c.2.1) rfl (Iz ?_));exact h
 .rfl';exact h _ r
 .rw[Yj];intro r hr;rw[aeF] at hy;exact q r ys _ (ao hr) hr ar (hy.imp λ_ _ x=>x.same (ao hr))
inductive UM(K:XW)(vs:List V)(H:Hp)(Q:VK)(aL:XK):Prop
 | mk(v:V)(c:Cl)(_:vs=[v])(_:df H v c)(_:∀ l (es:List Int) H',aj H H'->H l=none->H' l=some (.lst (es.map V.int))->(∀ e,e∈es↔gn e c=true)->es.length<=2->Q (.ref l) H')
theorem UN(T:Tx K mg):Ok P w base 1 T.lN (UM K):=by
 refine bb G2 ?_;rintro _ _ _ s H _ Q _ hr ⟨v,c,rfl,⟨t,a,b,rfl,h1,h2,h3⟩,q⟩;refine⟨_,(ay (aA (Qx rfl (cE (bz.mk (fr:=[]) (ys:=[]) rfl (by decide +kernel) rfl (by decide +kernel) rfl rfl .nil .nil (by decide) rfl) rfl (t6 (aa 0)) (λC s2 H2 ex pn=>⟨(gd (fg (b0 (K:=K) (aa 0) af))),(b0 (K:=K) (aa 0) af)⟩)) (by rfl) T.Hm C5 (by rfl) T.Hl Fl))),?_⟩;rfl';refine⟨⟨_,ah.of h1⟩,bR (xs:=[.ref a,.ref b]) Dv a9 (oI (R:=UK H) (R':=λv (n:Int)=>v=V.int n) (p:=λs=>s.1.isSome) (f:=λs=>s.1.getD 0) (as:=[c.1,c.2]) (ah.of h1) ⟨⟨a,rfl,h2⟩,⟨b,rfl,h3⟩,trivial⟩ (λx s r Q h=>?_) (λx s hp r Q h=>?_) λzs hz=>?_)⟩
 .obtain⟨r,rfl,h4⟩:=r;rfl';refine ak (ah.of h4) (v:=ev s.1) rfl ?_;cases hs:s.1 with
  | none=>rw[hs] at h;exact h
  | some x=>rw[hs] at h;exact h
 .obtain⟨r,rfl,h4⟩:=r;rfl';refine ak (ah.of h4) (v:=ev s.1) rfl (h _ ?_);cases hs:s.1 with
  | none=>rw[hs] at hp;cases hp
  | some x=>rfl
 .rw[Yj];intro l hl;rw[aw.ints hz];have u1:=ao (o:=.lst ((([c.1,c.2].filter λs=>s.1.isSome).map λs=>s.1.getD 0).map V.int)) hl;have hn:(([c.1,c.2].filter λs=>s.1.isSome).map λs=>s.1.getD 0).length<=2:=by rw[XY];exact YH _ _
  have hi:∀ e,e∈(([c.1,c.2].filter λs=>s.1.isSome).map λs=>s.1.getD 0)↔gn e c=true:=λe=>by
   rw[m6];constructor
   .intro h;obtain⟨s,hs,rfl⟩:=Yc.mp h;obtain⟨m1,m2⟩:=Yy.mp hs;obtain⟨x,hx⟩:=aam.mp m2;rw[hx];rcases Yi.mp m1 with rfl|m1
    .exact .inl hx
    .rw[YG.mp m1] at hx;exact .inr hx
   .rintro (h|h)
    .exact Yc.mpr ⟨c.1,Yy.mpr ⟨.head _,by rw[h];rfl⟩,by rw[h];rfl⟩
    .exact Yc.mpr ⟨c.2,Yy.mpr ⟨.tail _ (.head _),by rw[h];rfl⟩,by rw[h];rfl⟩
  refine⟨l,rfl,_,ai.of ar,by lia,λws nd mem _ r hr=>?_⟩;exact q r ws _ (u1.trans (ao hr)) (u1.free hr) ar (λe=>(mem e).trans (hi e)) (X5 (IB nd λx hx=>(mem x).mp hx) hn)
inductive ID(K:XW)(N:Nat)(vs:List V)(H:Hp)(Q:VK)(aL:XK):Prop
 | mk(l:Ye)(zs:List V)(cs:List Cl)(n:Nat)(_:vs=[.ref l,.int n])(_:n<N)(_:n<=7)(_:H l=some (.lst zs))(_:aw (df H) zs cs)(_:cs.length<=64)(_:(∀ H',aj H H'->fZ (n+1) cs->Q .non H'))(_:∀ r (es:List Int) H',aj H H'->H r=none->H' r=some (.lst (es.map V.int))->qZ es cs->es.length<=n->Q (.ref r) H')
inductive bY(H:Hp)(l:Ye)(n:Nat)(cs:List Cl)(es:List Int)(i:Nat)(σ:St)(H1:Hp):Prop
 | mk(e1 e2:Option V)(_:σ=[some (.ref l),some (.int ((n+1:Nat):Int)),e1,e2])(_:aj H H1)(_:∀ e∈es.take i,fZ (n+1) (wo e cs))
theorem UO(T:Tx K mg):∀ N,Ok P w base (N+2) T.iK (ID K N):=by
 intro N
 induction N with
 | zero =>
  refine okN T.iK.F rF.1 (λvs H Q E h=>?_) (λaV A outer s H vs Q E hr h=>?_)
  .obtain⟨l,zs,cs,n,rfl,hN,_⟩:=h;exact absurd hN (ZN _)
  .obtain⟨l,zs,cs,n,rfl,hN,_⟩:=h;exact absurd hN (ZN _)
 | succ N ih =>
  refine okN T.iK.F rF.1 (λvs H Q E h=>?_) (λaV A outer s H vs Q E hr h=>?_)
  .obtain⟨l,zs,cs,n,rfl,_⟩:=h;rfl
  .obtain⟨l,zs,cs,n,rfl,hN,n7,hl,hC,hn,q0,q⟩:=h;refine⟨_,(au (aK (bZ (aY cX (by rfl) T.cT cR (ae (aa 0) ag)) af) (ay (aA (ck ag))) aJ)
    (au (aK (bZ (aa 1) af) (ay (aA bq)) aJ)
    (au (cW YM rfl (cu (bQ (UN T) (hr.mono (by lia)) rfl T.lN.m T.lN.F.kp T.lN.b .nil bC (ae (bc bf (aa 0) af (λ_ _=>rfl)) ag))) (fW (i:=2) rF.nd rfl (abz rfl)) (au (ik (i:=3) rF.nd rfl (abz rfl) (bQ ih (hr.mono (by lia)) rfl T.iK.m T.iK.F.kp T.iK.b .nil bC (ae (bQ (IC T) (hr.mono (by lia)) rfl T.iJ.m T.iJ.F.kp T.iJ.b .nil bC (ae (aa 0) (ae (aa 2) ag))) (ae (aH dA (aa 1) af) ag))))
      (ay (aK (fg (aa 3)) (ay (aA (aH ja (ck (ae (aa 2) ag)) (aa 3)))) aJ))))
    (ay (aA bq))))),?_⟩
   have zl:=hC.len;cases cs with
   | nil =>
    obtain rfl:zs=[]:=ZY.mp zl;rfl';refine⟨_,dR (ai.of hl),?_⟩;rfl';exact⟨by decide,λr hr=>q r [] _ (ao hr) hr ar (λc hc=>(nomatch hc)) (YB _)⟩
   | cons c cs =>
    obtain⟨z,zs,rfl⟩:∃ z z',zs=z::z':=by cases zs with|nil=>cases zl|cons z zs=>exact⟨z,zs,rfl⟩
    cases n with
    | zero =>
     rfl';refine⟨_,dR (ai.of hl),?_⟩;refine aQ (λh0=>absurd h0 (by rw[YY];lia)) λ_=>?_;rfl';exact q0 _ (aj.refl _) λ_ _=>trivial
    | succ n =>
     rfl';refine⟨_,dR (ai.of hl),?_⟩;refine aQ (λh0=>absurd h0 (by rw[YY];lia)) λ_=>aQ (λh0=>absurd h0 (by lia)) λ_=>?_;refine bH (ai.of hl) (v:=z) (show cQ (z::zs) ((0:Nat):Int)=some z from cY rfl) ⟨z,c,rfl,hC.1,λk es H1 s1 _ hk UP DN=>?_⟩;rfl';refine⟨⟨_,ai.of hk⟩,kZ (xs:=es.map V.int) (bY H1 l n (c::cs) es) ⟨_,_,rfl,aj.refl _,λ_ h=>(nomatch h)⟩ ?_ ?_ ?_⟩
     .rintro i σ H2 _ ⟨_,_,rfl,s2,_⟩;exact ai.of (s2 _ _ hk)
     .rintro i x σ H2 hx ⟨e1,e2,rfl,s2,bT⟩;rw[Yf] at hx;obtain⟨e,he,rfl⟩:=YJ.mp hx;have S2:=s1.trans s2;rfl';refine⟨l,e,_,c::cs,rfl,S2 _ _ hl,hC.imp λ_ _ x=>x.same S2,hn,λr ys H3 s3 _ hr hy=>?_⟩;refine⟨r,ys,wo e (c::cs),n,by rw[show (((n+1:Nat):Int)-1)=(n:Int) by lia],by lia,by lia,hr,hy,X5 (YH _ _) hn,λH4 s4 h4=>?_,λr2 UQ H4 s4 f4 gy UR hle=>?_⟩
      .rfl';refine⟨_,_,rfl,s2.trans (s3.trans s4),λe' oF=>?_⟩;rw[Zi,he] at oF;rcases Yz.mp oF with z|z
       .exact bT e' z
       .obtain rfl:e'=e:=by simpa using z
        exact h4
      .rfl';refine⟨by decide,λp hp=>⟨_,ar,_,(ao hp) _ _ gy,X5 (by rw[XY,Yx];lia:_<=20) (by decide),λp1 kK=>?_⟩⟩;have W:=s1.trans (s2.trans (s3.trans (s4.trans (ao (o:=.lst [.int e]) hp))));exact q p1 (e::UQ) _ (W.trans (ao kK)) (W.free kK) ar (QP UR) (by rw[YY];lia)
     .rintro σ H2 ⟨e1,e2,rfl,s2,bT⟩;rfl';refine q0 _ (s1.trans s2) λe he=>bT e ?_;rw[XY,Zr];exact (UP e).mpr he
def eL(H:Hp):V->Pp->Prop
 | v,.nil=>v = .non
 | v,.full=>∃ r,v = .ref r/\H r=some (.tup [.str "full"])
 | v,.cls c a b=>∃ r p q x y,v = .ref r/\H r=some (.tup [.str "clash",.ref p,.ref q,x,y])/\H p=some (.tup [ev c.1.1,.int c.1.2])/\H q=some (.tup [ev c.2.1,.int c.2.2])/\eL H x a/\eL H y b
theorem eL.same(s:aj H H'):∀ {t:Pp} {v:V},eL H v t->eL H' v t
 | .nil,_,h=>h
 | .full,_,⟨r,e,h⟩=>⟨r,e,s _ _ h⟩
 | .cls _ _ _,_,⟨r,p,q,x,y,e,h1,h2,h3,h4,h5⟩=>⟨r,p,q,x,y,e,s _ _ h1,s _ _ h2,s _ _ h3,eL.same s h4,eL.same s h5⟩
noncomputable def tK(n:Nat)(cs:List Cl)(o:En):Pp:=match o with|none=>.nil|some e=>lD n (wo e cs)
theorem IE(n:Nat)(c:Cl)(cs:List Cl):lD (n+1) (c::cs) = .cls c (tK n (c::cs) c.1.1) (if c.1.1=c.2.1 then .nil else tK n (c::cs) c.2.1):=rfl
inductive Bi(K:XW)(N:Nat)(vs:List V)(H:Hp)(Q:VK)(aL:XK):Prop
 | mk(l:Ye)(m:Int)(zs:List V)(cs:List Cl)(n:Nat)(_:vs=[.ref l,.int m])(_:m+1=(n:Int))(_:n<N)(_:H l=some (.lst zs))(_:aw (df H) zs cs)(_:cs.length<=64)(_:fZ n cs)(_:∀ v H',aj H H'->eL H' v (lD n cs)->Q v H')
inductive US(K:XW)(N:Nat)(vs:List V)(H:Hp)(Q:VK)(aL:XK):Prop
 | mk(l:Ye)(m:Int)(o:En)(zs:List V)(cs:List Cl)(n:Nat)(_:vs=[.ref l,ev o,.int m])(_:m=(n:Int))(_:n<N)(_:H l=some (.lst zs))(_:aw (df H) zs cs)(_:cs.length<=64)(_:(∀ e,o=some e->fZ n (wo e cs)))(_:∀ v H',aj H H'->eL H' v (tK n cs o)->Q v H')
theorem IF(T:Tx K mg)(N:Nat)(ih:Ok P w base (2 * N+1) T.gY (Bi K N)):Ok P w base (2 * N+2) T.gX (US K N):=by
 refine okN T.gX.F G3.1 (λvs H Q E h=>?_) (λaV A outer s H vs Q E hr h=>?_)
 .obtain⟨l,m,o,zs,cs,n,rfl,_⟩:=h;rfl
 .obtain⟨l,m,o,zs,cs,n,rfl,hm,hN,hl,hC,hn,bT,q⟩:=h;refine⟨_,(ay (aA (iX (cS (aa 1)) bq (bQ ih (hr.mono (by lia)) rfl T.gY.m T.gY.F.kp T.gY.b .nil bC (ae (bQ (IC T) (hr.mono (by lia)) rfl T.iJ.m T.iJ.F.kp T.iJ.b .nil bC (ae (aa 0) (ae (aa 1) ag))) (ae (aH dA (aa 2) af) ag)))))),?_⟩;cases o with
  | none =>
   rfl';exact q _ _ (aj.refl _) rfl
  | some e =>
   rfl';refine⟨l,e,zs,cs,rfl,hl,hC,hn,λr ys H1 s1 _ cc hy=>?_⟩;exact⟨r,_,ys,wo e cs,n,rfl,by lia,hN,cc,hy,X5 (YH _ _) hn,bT e rfl,λv H2 s2 h2=>q v H2 (s1.trans s2) h2⟩
theorem UT(T:Tx K mg):∀ N,Ok P w base (2 * N+1) T.gY (Bi K N):=by
 intro N
 induction N with
 | zero =>
  refine okN T.gY.F nj.1 (λvs H Q E h=>?_) (λaV A outer s H vs Q E hr h=>?_)
  .obtain⟨l,m,zs,cs,n,rfl,hm,hN,_⟩:=h;exact absurd hN (ZN _)
  .obtain⟨l,m,zs,cs,n,rfl,hm,hN,_⟩:=h;exact absurd hN (ZN _)
 | succ N ih =>
  refine okN T.gY.F nj.1 (λvs H Q E h=>?_) (λaV A outer s H vs Q E hr h=>?_)
  .obtain⟨l,m,zs,cs,n,rfl,_⟩:=h;rfl
  .obtain⟨l,m,zs,cs,n,rfl,hm,hN,hl,hC,hn,bT,q⟩:=h;refine⟨_,(au (aK (ng (aa 1) af) (ay (aA (aT (ae br ag)))) aJ)
    (au (ik (i:=2) nj.nd rfl (abz rfl) (bc bf (bc bf (aa 0) af (λ_ _=>rfl)) af (λ_ _=>rfl)))
    (au (ik (i:=3) nj.nd rfl (abz rfl) (bc bf (bc bf (aa 0) af (λ_ _=>rfl)) af (λ_ _=>rfl)))
    (au (ik (i:=4) nj.nd rfl (abz rfl) (bQ (IF T N ih) (hr.mono (by lia)) rfl T.gX.m T.gX.F.kp T.gX.b .nil bC (ae (aa 0) (ae (bc bf (aa 2) af (λ_ _=>rfl)) (ae (aa 1) ag)))))
    (au (ik (i:=5) nj.nd rfl (abz rfl) (iX (bZ (bc bf (aa 2) af (λ_ _=>rfl)) (bc bf (aa 3) af (λ_ _=>rfl))) bq (bQ (IF T N ih) (hr.mono (by lia)) rfl T.gX.m T.gX.F.kp T.gX.b .nil bC (ae (aa 0) (ae (bc bf (aa 3) af (λ_ _=>rfl)) (ae (aa 1) ag))))))
    (ay (aA (aT (ae br (ae (aa 2) (ae (aa 3) (ae (aa 4) (ae (aa 5) ag))))))))))))),?_⟩
   have zl:=hC.len;cases n with
   | zero =>
    rfl';refine aQ (λ_=>?_) λh0=>absurd (show m<0 by lia) h0;exact⟨by decide,λr hr=>q _ _ (ao hr) ⟨r,rfl,ar⟩⟩
   | succ n =>
    cases cs with
    | nil=>exact bT.elim
    | cons c cs =>
     obtain⟨z,zs,rfl⟩:∃ z z',zs=z::z':=by cases zs with|nil=>cases zl|cons z zs=>exact⟨z,zs,rfl⟩
     obtain⟨t,a,b,rfl,ht,ha,hb⟩:=id hC.1;have z0:cQ (V.ref t::zs) ((0:Nat):Int)=some (.ref t):=cY rfl;rfl';refine aQ (λh0=>absurd h0 (by lia)) λ_=>?_;refine bH (ai.of hl) z0 (ak (ah.of ht) (v:=.ref a) rfl ?_);refine bH (ai.of hl) z0 (ak (ah.of ht) (v:=.ref b) rfl (ak (ah.of ha) (v:=ev c.1.1) rfl ?_));refine⟨l,m,c.1.1,_,c::cs,n,rfl,by lia,by lia,hl,hC,hn,λe he=>bT e (m6.mpr (.inl he)),λv1 H1 s1 h1=>?_⟩;refine ak (ah.of (s1 _ _ ha)) (v:=ev c.1.1) rfl (ak (ah.of (s1 _ _ hb)) (v:=ev c.2.1) rfl (IA ?_));rw[IE] at q;by_cases he:c.1.1=c.2.1
     .rw[decide_eq_true he];rw[if_pos he] at q;refine⟨by decide,λp hp=>?_⟩;have u1:=ao (o:=.tup [.str "clash",.ref a,.ref b,v1,.non]) hp;have U:=s1.trans u1;exact q _ _ U ⟨p,a,b,v1,_,rfl,ar,U _ _ ha,U _ _ hb,h1.same u1,rfl⟩
     .rw[decide_eq_false he];rw[if_neg he] at q;refine ak (ah.of (s1 _ _ hb)) (v:=ev c.2.1) rfl ⟨l,m,c.2.1,_,c::cs,n,rfl,by lia,by lia,s1 _ _ hl,hC.imp λ_ _ x=>x.same s1,hn,λe he=>bT e (m6.mpr (.inr he)),λv2 H2 s2 h2=>⟨by decide,λp hp=>?_⟩⟩;have u1:=ao (o:=.tup [.str "clash",.ref a,.ref b,v1,v2]) hp;have U:=s1.trans (s2.trans u1);exact q _ _ U ⟨p,a,b,v1,v2,rfl,ar,U _ _ ha,U _ _ hb,h1.same (s2.trans u1),h2.same u1⟩
theorem UU(T:Tx K mg):Ok P w base 10 T.iK (ID K 8):=UO T 8
theorem UW(T:Tx K mg):Ok P w base 19 T.gY (Bi K 9):=UT T 9
noncomputable def dk:Pp->Nat
 | .nil=>0
 | .full=>1
 | .cls _ a b=>(if dk a<=dk b then dk b else dk a)+1
theorem IG:∀ (n:Nat) (cs:List Cl),dk (lD n cs)<=n+1
 | 0,_=>X9 _
 | n+1,[]=>Nat.le_add_left _ _
 | n+1,c::cs=>by
  have one:∀ o,dk (tK n (c::cs) o)<=n+1:=λo=>by
   cases o with
   | none=>exact YB _
   | some e=>exact IG n _
  have two:dk (if c.1.1=c.2.1 then .nil else tK n (c::cs) c.2.1)<=n+1:=by
   split
   .exact YB _
   .exact one _
  rw[IE];show (if _<=_ then _ else _)+1<=n+1+1;have:=one c.1.1;split<;>lia
inductive Bj(G H:Hp)(v:V)(sw gw:List W2)(tb:Tb)(mo:Int):Prop
 | l6 (r k:Ye) (j:Nat) (_:v = .ref r) (_:H r=some (.tup [.str "never",.ref k])) (_:H k=some (.tup [.str "step",.int (j:Int)])) (_:sw[j]?=some none)
 | gol (r k:Ye) (j:Nat) (_:v = .ref r) (_:H r=some (.tup [.str "never",.ref k])) (_:H k=some (.tup [.str "at",.int (j:Int)])) (_:gw[j]?=some none)
 | pap (r:Ye) (k:V) (t:Pp) (pp:List P2) (gs:List S2) (_:v = .ref r) (_:H r=some (.tup [.str "never",k])) (_:eL H k t) (_:dk t<=9) (_:sw=pp.map fO) (_:gw=gs.map some) (_:Val pp gs tb mo t [])
 | may (r k:Ye) (cs:List Int) (pp:List P2) (gs:List S2) (es:List Int) (_:v = .ref r) (_:H r=some (.tup [.str "may",.ref k])) (_:H k=some (.lst (cs.map V.int))) (_:G k=none) (_:cs.length=gw.length) (_:sw=pp.map fO) (_:gw=gs.map some) (_:eJ pp (bM cs)) (_:∀ t s,gs[t]?=some s->bp s (bM cs t)) (_:(es.length:Int)<=mo) (_:meets (cn tb es) (bM cs))
noncomputable def fh(gs:List S2):List Mk:=(Yn gs.length).map λi=>(i,gs.getD i (none,none))
theorem IH{gs:List S2}{i:Nat}{m:Mk}(h:(fh gs)[i]?=some m):m.1=i/\gs[i]?=some m.2:=by
 unfold fh at h;rw[Yf] at h;obtain⟨k,hk,rfl⟩:=YJ.mp h;have hi:i<gs.length:=by
  have:=(X6.mp hk).1
  rwa [Yb] at this
 rw[YN hi] at hk;cases hk;exact⟨rfl,by show gs[i]?=some (gs.getD i _);rw[XZ,X0 hi];rfl⟩
theorem II(h:m∈fh gs):m.1<gs.length/\gs[m.1]?=some m.2:=by obtain⟨i,hi⟩:=Zh.mp h;obtain⟨e1,e2⟩:=IH hi;rw[<- e1] at e2;exact⟨(X6.mp e2).1,e2⟩
theorem wb(gs:List S2):(fh gs).length=gs.length:=by unfold fh;rw[XY,Yb]
theorem aw.Bk:∀ {xs:List V} {as:List α},xs.length=as.length->(∀ (i:Nat) x a,xs[i]?=some x->as[i]?=some a->R x a)->aw R xs as
 | [],[],_,_=>trivial
 | _::_,_::_,h,k=>⟨k 0 _ _ rfl rfl,aw.Bk (by simpa using h) λi x a h1 h2=>k (i+1) x a h1 h2⟩
 | [],_::_,h,_=>by cases h
 | _::_,[],h,_=>by cases h
theorem getD_none{ws:List W2}{j:Nat}(h:j<ws.length)(e:aaR (ws.getD j none)=true):ws[j]?=some none:=by
 rw[XZ,X0 h] at e;rw[X0 h];cases hw:ws[j] with
 | none=>rfl
 | some s=>rw[hw] at e;cases e
inductive UX(K:XW)(B C:Ye)(vs:List V)(H:Hp)(Q:VK)(E:XK):Prop
 | mk(x p b:Ye)(e t u d m:Int)(xs:List V)(ps:List Pa)(tb:Tb)(_:vs=[.ref x,.ref b])(_:di B H x e t u d m p tb)(_:bX e t tb)(_:tb.length<=60)(_:1<=t)(_:t<=12)(_:0<=e)(_:e<=7)(_:0<=m)(_:m<=7)(_:ai K H b xs)(_:de H xs ps)(_:ps.length<=900)(_:(¬ eF t ps->E (.ref C) none H))(_:(eF t ps->∀ v H',aj H H'->Bj H H' v (cb u d ps (t-1).toNat) (cO ps t.toNat) tb m->Q v H'))
theorem IJ(T:Tx K mg):Ok P w base 20 T.x_ask (UX K T.aN T.iQ):=by
 refine gV nk ?_;rintro _ _ _ s H vs _ _ hr ⟨x,p,b,e,t,u,d,m,xs,ps,tb,rfl,hb,bG,eV,t1,t2,e0,e7,m0,m7,hX,hP,hn,Q0,Q9⟩;refine⟨_,(au (aE 2 nk.nd (bQ (HS T) (hr.mono (by decide)) rfl T.lK.m T.lK.F.kp T.lK.b .nil dn (ae (aa 0) (ae (aa 1) ag))))
  (au (aE 3 nk.nd (bQ (Tt T) (hr.mono (by decide)) rfl T.lL.m T.lL.F.kp T.lL.b .nil dn (ae (aa 0) (ae (aa 1) ag))))
  (au (aK (jS (FN (gb hr)) bq (aa 2) (by with_unfolding_all rfl)) (ay (aA (aT (ae br (ae (aT (ae br (ae (i9 YW abi acN (FO (gb hr)) (aa 2) (ae bq ag)) ag))) ag))))) aJ)
  (au (aK (jS (FN (gb hr)) bq (aa 3) (by with_unfolding_all rfl)) (ay (aA (aT (ae br (ae (aT (ae br (ae (i9 YW abi acN (FO (gb hr)) (aa 3) (ae bq ag)) ag))) ag))))) aJ)
  (au (aE 4 nk.nd (Rh rfl (by rfl) T.AN (by rfl) T.vL (ae (aa 3) ag)))
  (au (aE 5 nk.nd (aF (UC T) hr (ae (aa 2) (ae (aH ja (ck (ae (aT (ae bq (ae (aa 4) ag))) ag)) (aF (T6 T) hr (ae (aa 0) ag))) ag))))
  (au (aE 6 nk.nd (aF (UU T) hr (ae (aa 5) (ae (bS rfl (aa 0) rfl) ag))))
  (au (aK (cS (aa 6)) (ay (aA (aT (ae br (ae (aF (UW T) hr (ae (aa 5) (ae (bS rfl (aa 0) rfl) ag))) ag))))) aJ)
  (ay (aA (aT (ae br (ae (aF (Ul T) hr (ae (aa 2) (ae (aH ja (aa 4) (aF (Ia T) hr (ae (aa 0) (ae (aa 6) ag)))) ag))) ag))))))))))))),?_⟩
 obtain⟨⟨dx,hx⟩,kvs,hkv,XB⟩:=id hb;have Bl:hJ T.aN H x e t u d m p kvs:=⟨⟨dx,hx⟩,hkv⟩
 by_cases hk:eF t ps
 case neg =>
  refine aD (λ_ _=>False) (λN hN=>?_) (λ_ _ _ _ h=>h.elim);rfl';exact⟨x,p,b,e,t,u,d,m,kvs,xs,ps,rfl,Bl,t1,t2,hX,hP,hn,λ_=>Q0 hk,λz=>absurd z hk⟩
 have Q1:=Q9 hk;refine aD (λσ H1=>∃ s ys,σ=[some (.ref x),some (.ref b),some (.ref s),none,none,none,none]/\aj H H1/\H1 s=some (.lst ys)/\aw (dW H1) ys (cb u d ps (t-1).toNat)) (λN hN=>?_) ?_
 .rfl';exact⟨x,p,b,e,t,u,d,m,kvs,xs,ps,rfl,Bl,t1,t2,hX,hP,hn,λz=>absurd hk z,λ_ l ys H1 s1 _ hl hW=>hN _ _ ⟨l,ys,rfl,s1,hl,hW⟩⟩
 rintro _ yR σ H1 ⟨s,ys,rfl,s1,hs,hW⟩;subst yR;refine aD (λσ H2=>∃ gl zs,σ=[some (.ref x),some (.ref b),some (.ref s),some (.ref gl),none,none,none]/\aj H1 H2/\H2 gl=some (.lst zs)/\aw (dW H2) zs (cO ps t.toNat)) (λN hN=>?_) ?_
 .rfl';exact⟨x,p,b,e,t,u,d,m,kvs,xs,ps,rfl,Bl.same s1,t1,t2,s1.seq hX,hP.same s1,hn,λz=>absurd hk z,λ_ l ys H2 s2 _ hl hW=>hN _ _ ⟨l,ys,rfl,s2,hl,hW⟩⟩
 rintro _ yR σ H2 ⟨gl,zs,rfl,s2,gq,hG⟩;subst yR;have tq:=s1.trans s2;have cM:=s2 _ _ hs;have Bm:=hW.imp λ_ _ r=>r.same s2;have wl:(cb u d ps (t-1).toNat).length=(t-1).toNat:=by unfold cb;rw[XY,Yb]
 have gw:(cO ps t.toNat).length=t.toNat:=by unfold cO;rw[XY,Yb]
 have yl:=hW.len;have zl:=hG.len;obtain⟨n1,n2,n3⟩:=yP Bm;obtain⟨k1,k2,k3⟩:=yP hG;refine aD (λσ H3=>σ=[some (.ref x),some (.ref b),some (.ref s),some (.ref gl),none,none,none]/\H3=H2/\(cb u d ps (t-1).toNat).any aaR=false) (λN hN=>?_) ?_
 .rfl';refine⟨s,ys,rfl,rfl,ai.of cM,n1,?_⟩;rw[n2];cases hA:(cb u d ps (t-1).toNat).any aaR with
  | false =>
   rfl';exact hN _ _ ⟨rfl,rfl,hA⟩
  | true =>
   rfl';obtain⟨j,j1,j2,j3⟩:=yQ (d:=V.non) (n2.trans hA);refine⟨.inl ⟨rfl,_,ai.of cM⟩,s,ys,j,rfl,rfl,ai.of cM,n1,j1,by lia,j2,j3,a9,λk kJ=>⟨a9,λr hr=>?_⟩⟩;have u1:=ao (o:=.tup [.str "step",.int (j:Int)]) kJ;have u2:=ao (o:=.tup [.str "never",.ref k]) hr;rw[n3] at j2;exact Q1 _ _ (tq.trans (u1.trans u2)) (.l6 r k j rfl ar (u2 _ _ ar) (getD_none (by lia) j2))
 rintro _ yR σ H3 ⟨rfl,rfl,hA⟩;subst yR;refine aD (λσ H4=>σ=[some (.ref x),some (.ref b),some (.ref s),some (.ref gl),none,none,none]/\H4=H3/\(cO ps t.toNat).any aaR=false) (λN hN=>?_) ?_
 .rfl';refine⟨gl,zs,rfl,rfl,ai.of gq,k1,?_⟩;rw[k2];cases hB:(cO ps t.toNat).any aaR with
  | false =>
   rfl';exact hN _ _ ⟨rfl,rfl,hB⟩
  | true =>
   rfl';obtain⟨j,j1,j2,j3⟩:=yQ (d:=V.non) (k2.trans hB);refine⟨.inl ⟨rfl,_,ai.of gq⟩,gl,zs,j,rfl,rfl,ai.of gq,k1,j1,by lia,j2,j3,a9,λk kJ=>⟨a9,λr hr=>?_⟩⟩;have u1:=ao (o:=.tup [.str "at",.int (j:Int)]) kJ;have u2:=ao (o:=.tup [.str "never",.ref k]) hr;rw[k3] at j2;exact Q1 _ _ (tq.trans (u1.trans u2)) (.gol r k j rfl ar (u2 _ _ ar) (getD_none (by lia) j2))
 rintro _ yR σ H4 ⟨rfl,rfl,hB⟩;subst yR;obtain⟨pp,ep,az⟩:=FQ (f:=λ(k:Nat)=>eE (none,none) ((some (-d),some u)::sel ps "step" (k:Int))) (λk s h=>QJ h) (Yn (t-1).toNat) λk hk e=>FR hA _ (Yc.mpr ⟨k,hk,rfl⟩) e;replace ep:cb u d ps (t-1).toNat=pp.map fO:=ep;obtain⟨gs,eg⟩:=all_some _ (FR hB);have XD:pp.length=(t-1).toNat:=by rw[<- wl,ep,XY]
 have XE:gs.length=t.toNat:=by rw[<- gw,eg,XY]
 rw[ep] at Bm;have IK:=FT Bm;have Bn:=hG;rw[eg] at Bn;have M1:∀ mm∈fh gs,mm.1<=pp.length:=λmm hm=>by have:=(II hm).1;lia
 have M2:∀ r∈tb,r.1.2.toNat<=pp.length:=λr hr=>by have ho:=bG.2 r hr;unfold lq at ho;lia
 refine aD (λσ H5=>∃ k vs,σ=[some (.ref x),some (.ref b),some (.ref s),some (.ref gl),some (.ref k),none,none]/\aj H4 H5/\H5 k=some (.lst vs)/\aw (dM H5) vs (fh gs)) (λN hN=>?_) ?_
 .rfl';refine⟨zs,ai.of gq,λl vs H5 s5 _ hl UY hv=>hN _ _ ⟨l,vs,rfl,s5,hl,aw.Bk (by rw[UY,wb,Bn.len,XY]) λi y mk e1 e2=>?_⟩⟩;obtain⟨f1,f2⟩:=IH e2;obtain⟨z,hz,rz⟩:=Bn.at (i:=i) (by rw[Yf,f2];rfl);obtain⟨p0,rfl,_,h5⟩:=hv i y z e1 hz;obtain⟨pz,rfl,hpz⟩:=rz;exact⟨p0,pz,rfl,by rw[h5,f1],s5 _ _ hpz⟩
 rintro _ yR σ H5 ⟨k,vs,rfl,s5,hkl,hM⟩;subst yR;have vl:=hM.len;rw[wb] at vl;have S5:=tq.trans s5;have vn:vs.length<=12:=by lia
 refine aD (λσ H6=>∃ c ws cs,σ=[some (.ref x),some (.ref b),some (.ref s),some (.ref gl),some (.ref k),some (.ref c),none]/\aj H5 H6/\H6 c=some (.lst ws)/\aw (df H6) ws cs/\cs.length<=64/\vo pp (jy (fh gs) e.toNat tb) cs/\∀ g∈jy (fh gs) e.toNat tb,∀ h∈jy (fh gs) e.toNat tb,jx pp g h cs) (λN hN=>?_) ?_
 .rfl';refine⟨a9,λt0 UZ=>⟨by decide,λl0 dZ=>?_⟩⟩;have u1:=ao (o:=.tup [.non,.ref k]) UZ;have u2:=ao (o:=.lst [.ref t0]) dZ;have U:=u1.trans u2;refine⟨x,p,e,t,u,d,m,tb,rfl,hb.same (S5.trans U),bG.1,by lia,λr hr=>(bG.2 r hr).2.1,e0,e7,λl ws H6 s6 _ hl IL=>?_⟩;have IM:=IL.len;unfold qY at IM;rw[XY,XY,Yb] at IM;refine⟨l,rfl,[.ref t0],s6 _ _ ar,ws,hl,X5 (by show 1+ws.length<=30;lia) (by decide),λc hc=>?_⟩;have u3:=ao (o:=.lst ([.ref t0]++ws)) hc;have S6:=s5.trans (U.trans (s6.trans u3));refine⟨s,c,ys,.ref t0::ws,pp,jy (fh gs) e.toNat tb,rfl,ai.of (S6 _ _ cM),IK.same S6,az,by lia,ai.of ar,⟨⟨t0,k,vs,rfl,(u2.trans (s6.trans u3)) _ _ ar,(U.trans (s6.trans u3)) _ _ hkl,hM.imp λ_ _ r=>r.same (U.trans (s6.trans u3))⟩,IL.imp λ_ _ r=>r.same u3⟩,?_,λg hg=>?_,λl7 U0 U1 H7 s7 _ a1 a2 a3 a4 a5=>hN _ _ ⟨l7,U0,U1,rfl,U.trans (s6.trans (u3.trans s7)),a1,a2,a3,a4,a5⟩⟩
  .unfold jy qY;rw[YY,XY,XY,Yb];lia
  .rcases Yi.mp hg with rfl|z
   .exact⟨by show (fh gs).length<=1000;rw[wb];lia,M1⟩
   .obtain⟨g1,mY,rfl⟩:=Yc.mp z;obtain⟨i,_,rfl⟩:=Yc.mp mY;refine⟨X5 (by unfold lz;rw[XY];exact X5 (YH _ _) (by rw[mO];exact X9 _)) (by lia:tb.length<=1000),λmm cH=>?_⟩;obtain⟨r,hr,_,rfl⟩:=yS.mp cH;exact M2 r hr
 rintro _ yR σ H6 ⟨c,ws,cs,rfl,s6,hc,hC,bh,hsnd,qw⟩;subst yR;have S6:=S5.trans s6;refine aD (λσ H7=>∃ av,σ=[some (.ref x),some (.ref b),some (.ref s),some (.ref gl),some (.ref k),some (.ref c),some av]/\aj H6 H7/\((av = .non/\fZ (m.toNat+1) cs) ∨ ∃ f es,av = .ref f/\H7 f=some (.lst (es.map V.int))/\qZ es cs/\es.length<=m.toNat)) (λN hN=>?_) ?_
 .rfl';refine⟨_,_,_,S6 _ _ hx,T.bO,T.ph,_,rfl,?_⟩;exact⟨c,ws,cs,m.toNat,by rw[ZL m0],by lia,by lia,hc,hC,bh,λH7 s7 h7=>hN _ _ ⟨_,rfl,s7,.inl ⟨rfl,h7⟩⟩,λr es H7 s7 _ hr h1 h2=>hN _ _ ⟨_,rfl,s7,.inr ⟨r,es,rfl,hr,h1,h2⟩⟩⟩
 rintro _ yR σ H7 ⟨av,rfl,s7,⟨rfl,bT⟩|⟨f,es,rfl,hf,hcov,hle⟩⟩<;>subst yR
 .have S7:=S6.trans s7;rfl';refine⟨_,_,_,S7 _ _ hx,T.bO,T.ph,_,rfl,?_⟩;refine⟨c,m,ws,cs,m.toNat+1,rfl,by lia,by lia,s7 _ _ hc,hC.imp λ_ _ r=>r.same s7,bh,bT,λv H8 s8 h8=>⟨a9,λz hz=>?_⟩⟩;have u1:=ao (o:=.tup [.str "never",v]) hz;exact Q1 _ _ (S7.trans (s8.trans u1)) (.pap z v _ pp gs rfl ar (h8.same u1) (X5 (IG _ _) (by lia)) ep eg (FV _ _ _ bT (by rw[aaK];lia) (snd_mk bG (λmm hm=>(II hm).2) hsnd)))
 .have S7:=S6.trans s7;have M3:∀ mm∈fh gs++cn tb es,mm.1<=pp.length:=λmm hm=>by
   rcases Yz.mp hm with z|z
   .exact M1 mm z
   .obtain⟨r,hr,_,rfl⟩:=q8.mp z;exact M2 r hr
  have U2:=QQ bG az M3 hcov qw;rfl';refine⟨x,p,f,e,t,u,d,m,tb,es,rfl,hb.same S7,bG.1,by lia,λr hr=>(bG.2 r hr).2.1,ai.of hf,by lia,λr rs H8 s8 hr pH=>⟨r,rfl,vs,(s6.trans (s7.trans s8)) _ _ hkl,rs,hr,?_,λk2 gR=>?_⟩⟩
  .replace pH:aw (dM H8) rs (cn tb es):=pH;have e1:=pH.len;have e2:(cn tb es).length<=tb.length:=by unfold cn;rw[XY];exact X5 (YH _ _) (by rw[mO];exact X9 _)
   exact X5 (by lia:_<=100) (by decide)
  replace pH:aw (dM H8) rs (cn tb es):=pH;have u1:=ao (o:=.lst (vs++rs)) gR;have W:=s5.trans (s6.trans (s7.trans (s8.trans u1)));have X8:=S7.trans (s8.trans u1);have ml:(fh gs++cn tb es).length<=1000:=by
   rw[Yh,wb];have e2:(cn tb es).length<=tb.length:=by unfold cn;rw[XY];exact X5 (YH _ _) (by rw[mO];exact X9 _)
   lia
  refine⟨s,k2,ys,vs++rs,pp,fh gs++cn tb es,rfl,ai.of (W _ _ cM),IK.same W,ai.of ar,aw.app (hM.imp λ_ _ r=>r.same (s6.trans (s7.trans (s8.trans u1)))) (pH.imp λ_ _ r=>r.same u1),az,by lia,ml,M3,λbT=>absurd U2 bT,λl9 co H9 s9 f9 U3 XF dD rA=>⟨a9,λz hz=>?_⟩⟩;have u9:=ao (o:=.tup [.str "may",.ref l9]) hz;refine Q1 _ _ (X8.trans (s9.trans u9)) (.may z l9 co pp gs es rfl ar (u9 _ _ U3) (X8.free f9) (by lia) ep eg dD (λtt ss hh=>?_) (by lia) λmm hm=>rA mm (Ym _ hm));refine rA (tt,ss) (Zc _ (Zh.mpr ⟨tt,?_⟩));have U4:=(X6.mp hh).1;unfold fh;rw[Yf,YN U4];show some (tt,gs.getD tt _)=_;rw[XZ,hh];rfl
theorem Bo(f:P2->Int):∀ {n:Nat},i+n<=ps.length->((Yn n).map λk=>f (aC ps (i+k))).sum=pre f ps (i+n)-pre f ps i
 | 0,_=>by simp
 | n+1,h=>by rw[ab2,Zg,afb,Bo f (by lia),show i+(n+1)=i+n+1 by lia,fI _ _ (by lia)];simp only[Ys,ab7,ad5,afP];lia
theorem IP{H:Hp}{ps:List P2}{i n:Nat}{f:P2->Int}{te:TE}{ρ:St}{Q:VK}(h9:n<=900)(he:∀ k:Nat,k<n->∀ Q:VK,Q (.int (f (aC ps (i+k)))) H->te (some (.int ((i:Int)+(k:Nat)))::ρ) H Q)
 (q:∀ l,H l=none->Q (.ref l) (upd H l (.lst (((Yn n).map λk=>f (aC ps (i+k))).map V.int)))):jW (gF (i:Int) n) ρ xi te H Q:=by
 refine bR gK (by rw[XY,Yb];exact X5 h9 (by decide)) (mI (R:=λx (k:Nat)=>x=V.int ((i:Int)+(k:Nat))) (as:=Yn n) (p:=λ_=>true) (f:=λk=>.int (f (aC ps (i+k)))) trivial ?_ (λ_ _ _ _ Q h=>h) (λx k hk _ r Q h=>?_) ?_)
 .exact aw.Bk (by rw[XY]) λj x a h1 h2=>by rw[Yf,h2] at h1;cases h1;rfl
 .subst r;exact he k (YF.mp hk) Q h
 .rw[Yj,Z7.mpr λ_ _=>rfl];rw[Y8] at q;exact q
inductive U5(K:XW)(vs:List V)(H:Hp)(Q:VK)(aL:XK):Prop
 | mk(s:Ye)(zs:List V)(ps:List P2)(i j:Nat)(_:vs=[.ref s,.int i,.int j])(_:ai K H s zs)(_:dU H zs ps)(_:ps.length<=900)(_:i<=ps.length)(_:j<=ps.length)(_:∀ H',aj H H'->Q (.int (bA ps i j)) H')
theorem U6(T:Tx K mg):Ok P w base 1 T.lU (U5 K):=by
 refine bb AK ?_;rintro _ _ _ s H _ Q _ _ ⟨s,zs,ps,i,j,rfl,hs,hP,h9,hi,hj,q⟩;refine⟨_,(au (aE 3 AK.nd (aY (DP rfl) (by rfl) T.Hn C6 (ae (cE (bz.mk (fr:=[0]) (ys:=["_law_steps"]) rfl (by decide +kernel) rfl (by decide +kernel) rfl rfl (.cons rfl .nil) (.cons rfl rfl rfl rfl .nil) (by decide) rfl) rfl (mh rfl T.dg (ae (aa 1) (ae (aa 2) ag))) (λC s2 H2 ex pn=>⟨cD,(b0 (K:=K) (b0 (K:=K) (aa 1) (aa 0)) af)⟩)) ag)))
  (ay (aA (aH dA (aa 3) (aY (DP rfl) (by rfl) T.Hn C6 (ae (cE (bz.mk (fr:=[0]) (ys:=["_law_steps"]) rfl (by decide +kernel) rfl (by decide +kernel) rfl rfl (.cons rfl .nil) (.cons rfl rfl rfl rfl .nil) (by decide) rfl) rfl (mh rfl T.dg (ae (aa 2) (ae (aa 1) ag))) (λC s2 H2 ex pn=>⟨cD,(b0 (K:=K) (b0 (K:=K) (aa 1) (aa 0)) af)⟩)) ag)))))),?_⟩
 have hl:=hP.len;have row:∀ (H':Hp) (k:Nat),aj H H'->k<ps.length->∃ p,cQ zs (k:Int)=some (.ref p)/\H' p=some (.tup [.int (aC ps k).1,.int (aC ps k).2]):=λH' k s' hk=>by obtain⟨v,hv,p,rfl,hp⟩:=hP.at (X0 (l:=ps) (i:=k) hk);refine⟨p,cY hv,?_⟩;rw[show ps[k]=aC ps k by unfold aC;rw[XZ,X0 hk];rfl] at hp;exact s' _ _ hp
 rfl';refine⟨by lia,by lia,by lia,by lia,IP (ps:=ps) (f:=λp=>p.2) (by lia) (λk hk Q h=>?_) λl oP=>?_⟩
 .obtain⟨p,e,hp⟩:=row H (i+k) (aj.refl _) (by lia);rfl';exact bH hs (by rw[<- e];congr 1) (ak (ah.of hp) rfl h)
 have u1:=ao (o:=.lst (((Yn (((j:Int)-(i:Int)).toNat)).map λk=>(aC ps (i+k)).2).map V.int)) oP;refine⟨l,rfl,_,ai.of ar,by lia,by lia,by lia,by lia,IP (ps:=ps) (f:=λp=>p.1) (by lia) (λk hk Q h=>?_) λl2 aU=>?_⟩
 .obtain⟨p,e,hp⟩:=row _ (j+k) u1 (by lia);rfl';exact bH (u1.seq hs) (by rw[<- e];congr 1) (ak (ah.of hp) rfl h)
 refine⟨l2,rfl,_,ai.of ar,?_⟩;have fin:=q _ (u1.trans (ao (o:=.lst (((Yn (((i:Int)-(j:Int)).toNat)).map λk=>(aC ps (j+k)).1).map V.int)) aU));have e:bA ps i j=((Yn (((j:Int)-(i:Int)).toNat)).map λk=>(aC ps (i+k)).2).sum-((Yn (((i:Int)-(j:Int)).toNat)).map λk=>(aC ps (j+k)).1).sum:=by
  unfold bA;by_cases fG:i<=j
  .rw[if_pos fG,show ((i:Int)-(j:Int)).toNat=0 by lia,Bo (λp=>p.2) (by lia),show i+((j:Int)-(i:Int)).toNat=j by lia];simp
  .rw[if_neg fG,show ((j:Int)-(i:Int)).toNat=0 by lia,Bo (λp=>p.1) (by lia),show j+((i:Int)-(j:Int)).toNat=i by lia];simp;lia
 rw[e] at fin;exact fin
inductive U7(K:XW)(vs:List V)(H:Hp)(Q:VK)(aL:XK):Prop
 | mk(v:V)(w a b z:Ye)(e t u d mo:Int)(zs:List V)(gs:List S2)(tb:Tb)(as:List Int)(s:En × Nat)(m:Mk)(_:vs=[v,.ref b,.ref a,.ref z])(_:hU H v w e t u d mo tb)(_:(tb.map (·.1)).Nodup)(_:H a=some (.tup [ev s.1,.int (s.2:Int)]))(_:ai K H b zs)(_:aw (λv x=>aI H v x.1 x.2) zs gs)(_:(∀ x∈gs,aW x.1 x.2=false))(_:H z=some (.lst (as.map V.int)))(_:iF gs tb as s m)(_:(∀ r∈tb,r.1.2.toNat<gs.length))(_:∀ v,aI H v m.2.1 m.2.2->Q v H)
theorem IQ(T:Tx K mg):Ok P w base 2 T.iO (U7 K):=by
 refine bb Hj ?_;rintro _ _ _ _ _ _ _ _ hr ⟨v,w,a,b,z,e,t,u,d,mo,zs,gs,tb,as,⟨o,k⟩,⟨k2,wd⟩,rfl,⟨r,rfl,hR,hT⟩,eT,ha,hb,hG,dD,hz,⟨hk,hm⟩,aS,q⟩;refine⟨_,(au (aK (PW.pt (cf (cB (cz (aY kX (by rfl) T.lW kW (ae (aa 2) (ae (kR (v:=.ty "tuple") rfl T.vN uu rfl) ag))))) (dO (kz (aY cX (by rfl) T.cT cR (ae (aa 2) ag)) af)))) (ay (aA bq)) aJ)
  (au (aK (PW.pt (cf (cB (cz (aF (vV T) hr (ae (ax (aa 2) af) ag)))) (cf (ng (ax (aa 2) af) af) (dO (rn (ax (aa 2) af) (aY cX (by rfl) T.cT cR (ae (aa 1) ag))))))) (ay (aA bq)) aJ)
  (au (aK (cS (ax (aa 2) af)) (au (aK (cz (aF (AW T) hr (ae (ax (aa 1) (ax (aa 2) af)) ag))) (ay (aA bq)) aJ)
    (ay (aA (ax (aa 1) (ax (aa 2) af))))) aJ)
  (au (aK (PW.pt (cf (cB (cz (aF (vV T) hr (ae (ax (aa 2) af) ag)))) (cf (jS wZ (ax (aa 2) af) (aa 3) (by with_unfolding_all rfl)) (dO (wC (Oa (gb hr) (aa 2) (ax (aa 0) af))))))) (ay (aA bq)) aJ)
  (ay (aA (uU (gb hr) (ax (aa 0) af) (aa 2) (λ_ _=>rfl)))))))),?_⟩
 obtain rfl:k2=k:=hk;have gq:=hG.len;have jE:k2<zs.length:=by
  cases o with
  | none =>
   have:=(X6.mp (show gs[k2]?=some wd from hm)).1;lia
  | some x =>
   have:=aS _ hm.2;rw[YS] at this;lia
 rfl';refine uv ha ?_;rfl';refine⟨_,n0 (ah.of ha),?_⟩;rfl';refine ak (ah.of ha) (v:=.int k2) rfl ⟨_,rfl,.inr ⟨_,rfl⟩,?_⟩;simp only[isWhole];rfl';refine ak (ah.of ha) (v:=.int k2) rfl ?_;rfl';refine aQ (λh0=>absurd h0 (by lia)) λ_=>ak (ah.of ha) (v:=.int k2) rfl ⟨_,dR hb,?_⟩;rfl';refine aQ (λh0=>absurd h0 (by lia)) λ_=>ak (ah.of ha) (v:=ev o) rfl ?_;cases o with
 | none =>
  obtain⟨v,hv,pz,rfl,hp⟩:=hG.at (i:=k2) (a:=wd) hm;rfl';refine ak (ah.of ha) (v:=.int k2) rfl (bH hb (cY hv) ⟨pz,wd.1,wd.2,rfl,ah.of hp,?_⟩);rw[dD wd (Zh.mpr ⟨_,hm⟩)];rfl';exact ak (ah.of ha) (v:=.int k2) rfl (bH hb (cY hv) (q _ ⟨pz,rfl,hp⟩))
 | some e =>
  rfl';refine ak (ah.of ha) (v:=.int e) rfl ⟨_,rfl,.inr ⟨_,rfl⟩,?_⟩;simp only[isWhole];rfl';refine ak (ah.of ha) (v:=.int e) rfl ?_;rfl';obtain⟨za,bI⟩:e∉as/\((e,((k2:Nat):Int)),wd)∈tb:=hm;obtain⟨kvs,hkv,hA⟩:=id hT;obtain⟨vv,hvv,va,rfl,hva⟩:=(hA.val (e,((k2:Nat):Int))).2 _ (uY eT bI);refine⟨z,_,rfl,.inl (ai.of hz),rfl,E2 as,⟨_,rfl,?_⟩⟩;rw[yo];refine aQ (λh0=>absurd h0 (by simpa using za)) λ_=>?_;refine ak (ah.of hR) (v:=.ref w) rfl ?_;rfl';refine⟨_,fb.t (k:=dX e (k2:Int)) hkv ha,?_⟩;rw[hvv];refine aQ (λh0=>nomatch h0) λ_=>?_;refine ak (ah.of hR) (v:=.ref w) rfl ?_;exact⟨w,rfl,.ref va,by rw[<- hvv];exact fb.t (k:=dX e (k2:Int)) hkv ha,q _ ⟨va,rfl,hva⟩⟩
noncomputable def fT(s:S2):W2:=if aW s.1 s.2=true then none else some s
theorem U8(h:fT s=some x):s=x/\aW s.1 s.2=false:=by
 unfold fT at h;split at h
 .cases h
 .rename_i hc;exact⟨Option.some.inj h,by simpa using hc⟩
theorem IS(h:fT s=none):aW s.1 s.2=true:=by
 unfold fT at h;split at h
 .rename_i hc;exact hc
 .cases h
theorem Bp:∀ {gs:List S2} {fs:List S2},gs.map fT=fs.map some->gs=fs/\∀ x∈gs,aW x.1 x.2=false
 | [],[],_=>⟨rfl,λ_ h=>nomatch h⟩
 | [],_::_,h=>nomatch h
 | _::_,[],h=>nomatch h
 | g::gs,f::fs,h=>by
  obtain⟨h1,h2⟩:=List.cons.inj h;obtain⟨rfl,h3⟩:=U8 h1;obtain⟨rfl,h4⟩:=Bp h2;refine⟨rfl,λx hx=>?_⟩;rcases Yi.mp hx with rfl|hx
  .exact h3
  .exact h4 x hx
theorem U9(h:aw (λv x=>aI H v x.1 x.2) ys sl)(e:sl.map fT=pp.map fO):dU H ys pp/\(∀ x∈sl,aW x.1 x.2=false)/\sl.length=pp.length:=by obtain⟨rfl,h2⟩:=Bp (fs:=pp.map λp=>(some p.1,some p.2)) (by rw[e,Y8];rfl);refine⟨?_,h2,by rw[XY]⟩;exact (aw.bind h:aw (λv (p:P2)=>aI H v (some p.1) (some p.2)) ys pp)
inductive pI(H:Hp)(wv:V)(w s gl:Ye)(sl gs:List S2)(e t u d m:Int)(tb:Tb):Prop
 | mk(ys zs:List V)(_:hU H wv w e t u d m tb)(_:H s=some (.lst ys))(_:aw (λv x=>aI H v x.1 x.2) ys sl)(_:H gl=some (.lst zs))(_:aw (λv x=>aI H v x.1 x.2) zs gs)(_:gs.length=sl.length+1)(_:sl.length<=900)(_:(tb.map (·.1)).Nodup)(_:∀ r∈tb,r.1.2.toNat<=sl.length)
theorem pI.same(h:pI H wv w s gl sl gs e t u d m tb)(x:aj H H'):pI H' wv w s gl sl gs e t u d m tb:=let ⟨ys,zs,a,b,c,d,e,f,g,i,j⟩:=h;⟨ys,zs,a.same x,x _ _ b,c.imp λ_ _ r=>r.same x,x _ _ d,e.imp λ_ _ r=>r.same x,f,g,i,j⟩
inductive ia(H:Hp)(v:V)(sw gw:List W2)(tb:Tb)(m:Int)(as:List Int)(N:Nat):Prop
 | l6 (k:Ye) (j:Nat) (_:v = .ref k) (_:H k=some (.tup [.str "step",.int (j:Int)])) (_:sw[j]?=some none)
 | gol (k:Ye) (j:Nat) (_:v = .ref k) (_:H k=some (.tup [.str "at",.int (j:Int)])) (_:gw[j]?=some none)
 | pap (t:Pp) (pp:List P2) (gs:List S2) (_:eL H v t) (_:dk t<N) (_:sw=pp.map fO) (_:gw=gs.map some) (_:Val pp gs tb m t as)
theorem ia.same{H H':Hp}{v:V}{sw gw:List W2}{tb:Tb}{m:Int}{as:List Int}{N:Nat}(h:ia H v sw gw tb m as N)(s:aj H H'):ia H' v sw gw tb m as N:=by
 rcases h with ⟨k,j,e,h1,h2⟩|⟨k,j,e,h1,h2⟩|⟨t,pp,gs,h1,h2,h3,h4,h5⟩
 .exact .l6 k j e (s _ _ h1) h2
 .exact .gol k j e (s _ _ h1) h2
 .exact .pap t pp gs (h1.same s) h2 h3 h4 h5
inductive wc(K:XW)(N:Nat)(vs:List V)(H:Hp)(Q:VK)(aL:XK):Prop
 | mk(wv v:V)(w s gl z:Ye)(e t u d m:Int)(sl gs:List S2)(tb:Tb)(as:List Int)(_:vs=[wv,.ref s,.ref gl,v,.ref z])(_:0<N)(_:N<=10)(_:pI H wv w s gl sl gs e t u d m tb)(_:H z=some (.lst (as.map V.int)))(_:as.length+N<=30)(_:ia H v (sl.map fT) (gs.map fT) tb m as N)(_:∀ H',aj H H'->Q (.bl true) H')
def IT(pp:List P2)(fs:List S2)(tb:Tb)(m:Int)(a:Pp)(as:List Int)(o:En):Prop:=match o with|none=>a = .nil|some e=>Val pp fs tb m a (as++[e])
inductive IU(K:XW)(N:Nat)(vs:List V)(H:Hp)(Q:VK)(aL:XK):Prop
 | mk(wv v:V)(w s gl z:Ye)(e t u d m:Int)(sl gs fs:List S2)(pp:List P2)(tb:Tb)(as:List Int)(o:En)(a:Pp)(_:vs=[wv,.ref s,.ref gl,v,ev o,.ref z])(_:N<=10)(_:pI H wv w s gl sl gs e t u d m tb)(_:H z=some (.lst (as.map V.int)))(_:as.length+1+N<=30)(_:eL H v a)(_:dk a<N)(_:sl.map fT=pp.map fO)(_:gs.map fT=fs.map some)(_:IT pp fs tb m a as o)(_:∀ H',aj H H'->Q (.bl true) H')
inductive Va(K:XW)(N:Nat)(vs:List V)(H:Hp)(Q:VK)(aL:XK):Prop
 | mk(wv v:V)(w s gl z:Ye)(e t u d m:Int)(sl gs fs:List S2)(pp:List P2)(tb:Tb)(as:List Int)(c:Cl)(a b:Pp)(_:vs=[wv,.ref s,.ref gl,v,.ref z])(_:N<=10)(_:pI H wv w s gl sl gs e t u d m tb)(_:H z=some (.lst (as.map V.int)))(_:as.length+1+N<=30)(_:eL H v (.cls c a b))(_:dk a<N)(_:dk b<N)(_:sl.map fT=pp.map fO)(_:gs.map fT=fs.map some)(_:Val pp fs tb m (.cls c a b) as)(_:∀ H',aj H H'->Q (.bl true) H')
theorem IV(T:Tx K mg)(N:Nat)(ih:Ok P w base (3 * N+3) T.gx (wc K N)):Ok P w base (3 * N+4) T.g9 (IU K N):=by
 refine okN T.g9.F Hk.1 (λvs H Q E h=>?_) (λaV A outer s H vs Q E hr h=>?_)
 .obtain⟨wv,v,w,s,gl,z,e,t,u,d,m,sl,gs,fs,pp,tb,as,o,a,rfl,_⟩:=h;rfl
 .obtain⟨wv,v,w,s,gl,z,e,t,u,d,m,sl,gs,fs,pp,tb,as,o,a,rfl,hN,hK,hz,hl,ha,la,e1,e2,hv,q⟩:=h;refine⟨_,(au (aK (cS (aa 4)) (ay (aA (kS (pQ (aa 3))))) aJ)
  (ay (aA (bQ ih (hr.mono (by lia)) rfl T.gx.m T.gx.F.kp T.gx.b .nil bC (ae (aa 0) (ae (aa 1) (ae (aa 2) (ae (aa 3) (ae (aH ja (aa 5) (ck (ae (aa 4) ag))) ag))))))))),?_⟩
  rfl';cases o with
  | none =>
   obtain rfl:a = .nil:=hv;obtain rfl:v = .non:=ha;rfl';exact q _ (aj.refl _)
  | some x =>
   rfl';refine⟨by decide,λp1 kK=>?_⟩;have u1:=ao (o:=.lst [.int x]) kK;refine⟨_,u1 _ _ hz,_,ar,X5 (by rw[XY,Yx];lia:_<=100) (by decide),λp2 fJ=>?_⟩;have u2:=ao (o:=.lst (as.map V.int++[.int x])) fJ;have U:=u1.trans u2;exact⟨wv,v,w,s,gl,p2,e,t,u,d,m,sl,gs,tb,as++[x],rfl,by lia,hN,hK.same U,by rw[Zg];exact ar,by rw[Yh,Yx];lia,.pap a pp fs (ha.same U) la e1 e2 hv,λH' s'=>q _ (U.trans s')⟩
theorem IW(h:iF gs tb as s m)(hg:gs.length=n+1)(ht:∀ r∈tb,r.1.2.toNat<=n):m.1<=n:=by
 obtain⟨e,h⟩:=h;rw[e];obtain⟨o,k⟩:=s;cases o with
 | none =>
  have:=(X6.mp (show gs[k]?=some m.2 from h)).1;show k<=n;lia
 | some x=>exact ht _ h.2
theorem Vb(T:Tx K mg)(N:Nat)(ih:Ok P w base (3 * N+3) T.gx (wc K N)):Ok P w base (3 * N+5) T.kG (Va K N):=by
 refine okN T.kG.F vJ.1 (λvs H Q E h=>?_) (λaV A outer s H vs Q E hr h=>?_)
 .obtain⟨wv,v,w,s,gl,z,e,t,u,d,m,sl,gs,fs,pp,tb,as,c,a,b,rfl,_⟩:=h;rfl
 .obtain⟨wv,v,w,s,gl,z,e,t,u,d,m,sl,gs,fs,pp,tb,as,⟨⟨o,i⟩,⟨o2,i2⟩⟩,a,b,rfl,hM,hK,hz,hl,⟨k,p,p2,x,y,rfl,hk,hp,fJ,hx,hy⟩,la,lb,e1,e2,⟨⟨mm,nn,mA,mB,bh⟩,va,vb⟩,q⟩:=h;refine⟨_,(au (ik (i:=5) vJ.nd rfl (abz rfl) (bQ (IQ T) (hr.mono (by lia)) rfl T.iO.m T.iO.F.kp T.iO.b .nil bC (ae (aa 0) (ae (aa 2) (ae (bc bf (aa 3) af (λ_ _=>rfl)) (ae (aa 4) ag))))))
  (au (ik (i:=6) vJ.nd rfl (abz rfl) (bQ (IQ T) (hr.mono (by lia)) rfl T.iO.m T.iO.F.kp T.iO.b .nil bC (ae (aa 0) (ae (aa 2) (ae (bc bf (aa 3) af (λ_ _=>rfl)) (ae (aa 4) ag))))))
  (au (aK (PW.pt (cf (cS (aa 5)) (cf (cS (aa 6)) (dO (cz (aY (xO rfl) (by rfl) T.AM xb (ae (cE (bz.mk (fr:=[]) (ys:=[]) rfl (by decide +kernel) rfl (by decide +kernel) rfl rfl .nil .nil (by decide) rfl) rfl (cu (aa 1)) (λC s2 H2 ex pn=>⟨cD,(bQ (AW T) (hr.mono (by lia)) rfl T.iN.m T.iN.F.kp T.iN.b .nil bC (ae (aa 0) ag))⟩)) ag))))))) (ay (aA eY)) aJ)
  (au (aK (PW.pt (cf (cS (bc bf (aa 5) af (λ_ _=>rfl))) (dO (cS (bc bf (aa 6) af (λ_ _=>rfl)))))) (ay (aA eY)) aJ)
  (au (aK (RE (bc bf (aa 6) af (λ_ _=>rfl)) (aH bE (bc bf (aa 5) af (λ_ _=>rfl)) (bQ (U6 T) (hr.mono (by lia)) rfl T.lU.m T.lU.F.kp T.lU.b .nil bC (ae (aa 1) (ae (bc bf (bc bf (aa 3) af (λ_ _=>rfl)) af (λ_ _=>rfl)) (ae (bc bf (bc bf (aa 3) af (λ_ _=>rfl)) af (λ_ _=>rfl)) ag)))))) (ay (aA eY)) aJ)
  (au (aK (cB (cz (bQ (IV T N ih) (hr.mono (by lia)) rfl T.g9.m T.g9.F.kp T.g9.b .nil bC (ae (aa 0) (ae (aa 1) (ae (aa 2) (ae (bc bf (aa 3) af (λ_ _=>rfl)) (ae (bc bf (bc bf (aa 3) af (λ_ _=>rfl)) af (λ_ _=>rfl)) (ae (aa 4) ag))))))))) (ay (aA eY)) aJ)
  (au (aK (PW.pt (iW (fg (bc bf (bc bf (aa 3) af (λ_ _=>rfl)) af (λ_ _=>rfl))) (jM (bZ (bc bf (bc bf (aa 3) af (λ_ _=>rfl)) af (λ_ _=>rfl)) (bc bf (bc bf (aa 3) af (λ_ _=>rfl)) af (λ_ _=>rfl)))))) (ay (aA (kS (pQ (bc bf (aa 3) af (λ_ _=>rfl)))))) aJ)
  (ay (aA (bQ (IV T N ih) (hr.mono (by lia)) rfl T.g9.m T.g9.F.kp T.g9.b .nil bC (ae (aa 0) (ae (aa 1) (ae (aa 2) (ae (bc bf (aa 3) af (λ_ _=>rfl)) (ae (bc bf (bc bf (aa 3) af (λ_ _=>rfl)) af (λ_ _=>rfl)) (ae (aa 4) ag)))))))))))))))),?_⟩
  obtain⟨ys,zs,hW,hs,hS,hg,hG,gq,hn,eT,hle⟩:=id hK;obtain⟨rfl,dD⟩:=Bp e2;obtain⟨hP,hcs,eN⟩:=U9 hS e1;dsimp only at va vb hp fJ;have lt:∀ r∈tb,r.1.2.toNat<gs.length:=λr hr=>by have:=hle r hr;lia
  refine aD (λσ H1=>∃ v1,σ=[some wv,some (.ref s),some (.ref gl),some (.ref k),some (.ref z),some v1,none]/\H1=H/\aI H v1 mm.2.1 mm.2.2) (λN hN=>?_) ?_
  .rfl';exact ak (ah.of hk) (v:=.ref p) rfl ⟨wv,w,p,gl,z,e,t,u,d,m,zs,gs,tb,as,(o,i),mm,rfl,hW,eT,hp,ai.of hg,hG,dD,hz,mA,lt,λv1 h1=>hN _ _ ⟨v1,rfl,rfl,h1⟩⟩
  rintro _ yR σ H1 ⟨v1,rfl,rfl,q1,rfl,tL⟩;subst yR;refine aD (λσ H2=>∃ v2,σ=[some wv,some (.ref s),some (.ref gl),some (.ref k),some (.ref z),some (.ref q1),some v2]/\H2=H1/\aI H1 v2 nn.2.1 nn.2.2) (λN hN=>?_) ?_
  .rfl';exact ak (ah.of hk) (v:=.ref p2) rfl ⟨wv,w,p2,gl,z,e,t,u,d,m,zs,gs,tb,as,(o2,i2),nn,rfl,hW,eT,fJ,ai.of hg,hG,dD,hz,mB,lt,λv1 h1=>hN _ _ ⟨v1,rfl,rfl,h1⟩⟩
  rintro _ yR σ H2 ⟨v2,rfl,rfl,q2,rfl,tM⟩;subst yR;refine aD (λσ H3=>σ=[some wv,some (.ref s),some (.ref gl),some (.ref k),some (.ref z),some (.ref q1),some (.ref q2)]/\aj H2 H3) (λN hN=>?_) ?_
  .rfl';refine⟨⟨_,ai.of hs⟩,bR eo (X5 (by rw[hS.len];lia:ys.length<=1000) (by decide)) (mI (R:=λx (n:S2)=>aI H2 x n.1 n.2) (as:=sl) (p:=λ_=>true) (f:=λ_=>.bl false) (ai.of hs) hS (λ_ _ _ _ Q h=>h) (λx n hn _ r Q h=>?_) λl hl=>?_)⟩
   .obtain⟨pa,rfl,eU⟩:=r;rfl';refine⟨pa,n.1,n.2,rfl,ah.of eU,?_⟩;rw[hcs n hn];exact h
   .rw[Yj,Z7.mpr λ_ _=>rfl];refine⟨l,rfl,sl.map λ_=>false,ai.of (by rw[ar,Y8];rfl),?_⟩;rw[if_neg (by simp)];exact hN _ _ ⟨rfl,ao hl⟩
  rintro _ yR σ H3 ⟨rfl,s3⟩;subst yR;obtain⟨hh,ll,h1,h2,h3⟩:=bh;rw[h1] at tL;rw[h2] at tM;refine aD (λσ H4=>σ=[some wv,some (.ref s),some (.ref gl),some (.ref k),some (.ref z),some (.ref q1),some (.ref q2)]/\H4=H3) (λN hN=>?_) ?_
  .rfl';refine ak (ah.of (s3 _ _ tL)) (v:=.int hh) rfl ?_;rfl';refine ak (ah.of (s3 _ _ tM)) (v:=.int ll) rfl ?_;rfl';exact hN _ _ ⟨rfl,rfl⟩
  rintro _ yR σ H4 ⟨rfl,rfl⟩;subst yR;refine aD (λσ H5=>σ=[some wv,some (.ref s),some (.ref gl),some (.ref k),some (.ref z),some (.ref q1),some (.ref q2)]/\aj H2 H5) (λN hN=>?_) ?_
  .rfl';refine ak (ah.of (s3 _ _ tM)) (v:=.int ll) rfl (ak (ah.of (s3 _ _ tL)) (v:=.int hh) rfl (ak (ah.of (s3 _ _ hk)) (v:=.ref p) rfl (ak (ah.of (s3 _ _ hp)) (v:=.int i) rfl (ak (ah.of (s3 _ _ hk)) (v:=.ref p2) rfl (ak (ah.of (s3 _ _ fJ)) (v:=.int i2) rfl ?_)))));have ma:=IW mA gq hle;have mb:=IW mB gq hle;have ea:mm.1=i:=mA.1;have eb:nn.1=i2:=mB.1;rw[ea] at ma h3;rw[eb] at mb h3;refine⟨s,ys,pp,i,i2,rfl,ai.of (s3 _ _ hs),hP.imp λ_ _ r=>r.same s3,by lia,by lia,by lia,λH5 s5=>?_⟩;rfl';rw[if_neg (by lia)];exact hN _ _ ⟨rfl,s3.trans s5⟩
  rintro _ yR σ H5 ⟨rfl,s5⟩;subst yR;refine aD (λσ H6=>σ=[some wv,some (.ref s),some (.ref gl),some (.ref k),some (.ref z),some (.ref q1),some (.ref q2)]/\aj H2 H6) (λN hN=>?_) ?_
  .rfl';refine ak (ah.of (s5 _ _ hk)) (v:=x) rfl (ak (ah.of (s5 _ _ hk)) (v:=.ref p) rfl (ak (ah.of (s5 _ _ hp)) (v:=ev o) rfl ?_));refine⟨wv,x,w,s,gl,z,e,t,u,d,m,sl,gs,gs,pp,tb,as,o,a,rfl,hM,hK.same s5,s5 _ _ hz,hl,hx.same s5,la,e1,e2,va,λH6 s6=>?_⟩;rfl';exact hN _ _ ⟨rfl,s5.trans s6⟩
  rintro _ yR σ H6 ⟨rfl,s6⟩;subst yR;rfl';have last:∀ R:V->Hp->Prop,(∀ H',aj H2 H'->R (.bl true) H')->IT pp gs tb m b as o2->jU K (.ref k) (.int 4) H6 λx H1=>jU K (.ref k) (.int 2) H1 λVc H1=>jU K Vc (.int 0) H1 λVd H1=>IU K N [wv,.ref s,.ref gl,x,Vd,.ref z] H1 R E0:=λR hR hv =>
   ak (ah.of (s6 _ _ hk)) (v:=y) rfl (ak (ah.of (s6 _ _ hk)) (v:=.ref p2) rfl (ak (ah.of (s6 _ _ fJ)) (v:=ev o2) rfl ⟨wv,y,w,s,gl,z,e,t,u,d,m,sl,gs,gs,pp,tb,as,o2,b,rfl,hM,hK.same s6,s6 _ _ hz,hl,hy.same s6,lb,e1,e2,hv,λH7 s7=>hR _ (s6.trans s7)⟩))
  refine ak (ah.of (s6 _ _ hk)) (v:=.ref p) rfl (ak (ah.of (s6 _ _ hp)) (v:=ev o) rfl ?_);cases o with
  | none =>
   rfl';refine last _ q ?_;cases o2 with
   | none=>exact vb
   | some x=>exact vb
  | some x0 =>
   rfl';refine ak (ah.of (s6 _ _ hk)) (v:=.ref p) rfl (ak (ah.of (s6 _ _ hp)) (v:=.int x0) rfl (ak (ah.of (s6 _ _ hk)) (v:=.ref p2) rfl (ak (ah.of (s6 _ _ fJ)) (v:=ev o2) rfl ?_)));refine IA (o:=some x0) (o':=o2) ?_;cases o2 with
   | none=>exact last _ q vb
   | some x2 =>
    replace vb:if (some x0:En)=some x2 then b = .nil else Val pp gs tb m b (as++[x2]):=vb
    by_cases he:(some x0:En)=some x2
    .rw[decide_eq_true he];rw[if_pos he] at vb;subst vb;obtain rfl:y = .non:=hy;exact ak (ah.of (s6 _ _ hk)) (v:=.non) rfl (q _ s6)
    .rw[decide_eq_false he];rw[if_neg he] at vb;exact last _ q vb
theorem Ve(T:Tx K mg):∀ N,Ok P w base (3 * N+3) T.gx (wc K N):=by
 intro N
 induction N with
 | zero =>
  refine okN T.gx.F o7.1 (λvs H Q E h=>?_) (λaV A outer s H vs Q E hr h=>?_)
  .obtain⟨wv,v,w,s,gl,z,e,t,u,d,m,sl,gs,tb,as,rfl,hN,_⟩:=h;exact absurd hN (Zk _)
  .obtain⟨wv,v,w,s,gl,z,e,t,u,d,m,sl,gs,tb,as,rfl,hN,_⟩:=h;exact absurd hN (Zk _)
 | succ N ih =>
  refine okN T.gx.F o7.1 (λvs H Q E h=>?_) (λaV A outer s H vs Q E hr h=>?_)
  .obtain⟨wv,v,w,s,gl,z,e,t,u,d,m,sl,gs,tb,as,rfl,_⟩:=h;rfl
  .obtain⟨wv,v,w,s,gl,z,e,t,u,d,m,sl,gs,tb,as,rfl,_,hM,hK,hz,hl,hR,q⟩:=h;refine⟨_,(au (aK (PW.pt (cf (cB (cz (aY kX (by rfl) T.lW kW (ae (aa 3) (ae (kR (v:=.ty "tuple") rfl T.vN uu rfl) ag))))) (dO (bZ (aY cX (by rfl) T.cT cR (ae (aa 3) ag)) af)))) (ay (aA eY)) aJ)
    (au (aK (bZ (bc bf (aa 3) af (λ_ _=>rfl)) br) (ay (aA (gp (eZ nT (aY cX (by rfl) T.cT cR (ae (aa 3) ag)) af (c8 _)) (gD (eZ (gT pZ) (aY cX (by rfl) T.cT cR (ae (aa 4) ag)) (bc bf (aa 0) af (λ_ _=>rfl)) (c8 _)))))) aJ)
    (au (aK (bZ (bc bf (aa 3) af (λ_ _=>rfl)) br) (ay (aA (gp (eZ nT (aY cX (by rfl) T.cT cR (ae (aa 3) ag)) af (c8 _)) (gD (bQ (Vb T N ih) (hr.mono (by lia)) rfl T.kG.m T.kG.F.kp T.kG.b .nil bC (ae (aa 0) (ae (aa 1) (ae (aa 2) (ae (aa 3) (ae (aa 4) ag)))))))))) aJ)
    (au (ik (i:=5) o7.nd rfl (abz rfl) (ck ag))
    (au (aK (bZ (bc bf (aa 3) af (λ_ _=>rfl)) br) (ay (ik (i:=5) o7.nd rfl (abz rfl) (aa 1))) aJ)
    (au (aK (bZ (bc bf (aa 3) af (λ_ _=>rfl)) br) (ay (ik (i:=5) o7.nd rfl (abz rfl) (aa 2))) aJ)
    (au (aK (PW.pt (cf (kz (aY cX (by rfl) T.cT cR (ae (aa 3) ag)) af) (cf (cB (cz (bQ (vV T) (hr.mono (by lia)) rfl T.lT.m T.lT.F.kp T.lT.b .nil bC (ae (bc bf (aa 3) af (λ_ _=>rfl)) ag)))) (cf (ng (bc bf (aa 3) af (λ_ _=>rfl)) af) (dO (rn (bc bf (aa 3) af (λ_ _=>rfl)) (aY cX (by rfl) T.cT cR (ae (aa 5) ag)))))))) (ay (aA eY)) aJ)
    (ay (aA (bQ (AW T) (hr.mono (by lia)) rfl T.iN.m T.iN.F.kp T.iN.b .nil bC (ae (bc bf (aa 5) (bc bf (aa 3) af (λ_ _=>rfl)) (λ_ _=>rfl)) ag))))))))))),?_⟩
   obtain⟨ys,zs,hW,hs,hS,hg,hG,gq,hn,eT,hle⟩:=id hK;have A9:∃ (k:Ye) (u:V) (us:List V),v = .ref k/\H k=some (.tup (u::us)):=by
    rcases hR with ⟨k,j,rfl,hk,hj⟩|⟨k,j,rfl,hk,hj⟩|⟨t,pp,fs,hp,hh,e1,e2,hv⟩
    .exact⟨k,_,_,rfl,hk⟩
    .exact⟨k,_,_,rfl,hk⟩
    .cases t with
     | nil=>exact hv.elim
     | full=>obtain⟨r,rfl,h⟩:=hp;exact⟨r,_,_,rfl,h⟩
     | cls c a b=>obtain⟨r,_,_,_,_,rfl,h,_⟩:=hp;exact⟨r,_,_,rfl,h⟩
   obtain⟨k,u0,us,rfl,hku⟩:=A9;refine aD (λσ H2=>σ=[some wv,some (.ref s),some (.ref gl),some (.ref k),some (.ref z),none]/\H2=H) (λN hN=>?_) ?_
   .rfl';refine uv hku ?_;rfl';refine⟨_,n0 (ah.of hku),?_⟩;refine aQ (λh0=>absurd h0 (by rw[YY];lia)) λ_=>hN _ _ ⟨rfl,rfl⟩
   rintro _ yR σ H2 ⟨rfl,rfl⟩;subst yR;rcases hR with ⟨k2,j,e1,hk,hj⟩|⟨k2,j,e1,hk,hj⟩|⟨tt,pp,fs,hp,hh,e1,e2,hv⟩
   .cases e1;refine aD (λσ H3=>σ=[some wv,some (.ref s),some (.ref gl),some (.ref k),some (.ref z),none]/\H3=H2) (λN hN=>?_) ?_
    .rfl';refine ak (ah.of hk) (v:=.str "step") rfl ?_;rfl'
     first|exact hN _ _ ⟨rfl,rfl⟩|exact aQ (λh=>absurd h (by decide)) λ_=>hN _ _ ⟨rfl,rfl⟩
    rintro _ yR σ H3 ⟨rfl,rfl⟩;subst yR;refine aD (λσ H4=>σ=[some wv,some (.ref s),some (.ref gl),some (.ref k),some (.ref z),none]/\H4=H3) (λN hN=>?_) ?_
    .rfl';refine ak (ah.of hk) (v:=.str "step") rfl ?_;rfl'
     first|exact hN _ _ ⟨rfl,rfl⟩|exact aQ (λh=>absurd h (by decide)) λ_=>hN _ _ ⟨rfl,rfl⟩
    rintro _ yR σ H4 ⟨rfl,rfl⟩;subst yR;refine aD (λσ H5=>∃ l0,σ=[some wv,some (.ref s),some (.ref gl),some (.ref k),some (.ref z),some (.ref l0)]/\aj H4 H5) (λN hN=>?_) ?_
    .rfl';exact⟨by decide,λp hp=>hN _ _ ⟨p,rfl,ao hp⟩⟩
    rintro _ yR σ H5 ⟨l0,rfl,s5⟩;subst yR;refine aD (λσ H6=>σ=[some wv,some (.ref s),some (.ref gl),some (.ref k),some (.ref z),some (.ref s)]/\H6=H5) (λN hN=>?_) ?_
    .rfl';refine ak (ah.of (s5 _ _ hk)) (v:=.str "step") rfl ?_;rfl'
     first|exact hN _ _ ⟨rfl,rfl⟩|exact aQ (λh=>absurd h (by decide)) λ_=>hN _ _ ⟨rfl,rfl⟩
    rintro _ yR σ H6 ⟨rfl,rfl⟩;subst yR;refine aD (λσ H7=>σ=[some wv,some (.ref s),some (.ref gl),some (.ref k),some (.ref z),some (.ref s)]/\H7=H6) (λN hN=>?_) ?_
    .rfl';refine ak (ah.of (s5 _ _ hk)) (v:=.str "step") rfl ?_;rfl'
     first|exact hN _ _ ⟨rfl,rfl⟩|exact aQ (λh=>absurd h (by decide)) λ_=>hN _ _ ⟨rfl,rfl⟩
    rintro _ yR σ H7 ⟨rfl,rfl⟩;subst yR;rw[Yf] at hj;obtain⟨sj,hsj,hcj⟩:=YJ.mp hj;obtain⟨vj,hvj,pj,rfl,hpj⟩:=hS.at hsj;have jl:=(X6.mp hvj).1;refine aD (λσ H8=>σ=[some wv,some (.ref s),some (.ref gl),some (.ref k),some (.ref z),some (.ref s)]/\H8=H7) (λN hN=>?_) ?_
    .rfl';refine⟨_,n0 (ah.of (s5 _ _ hk)),?_⟩;rfl';refine ak (ah.of (s5 _ _ hk)) (v:=.int j) rfl ⟨_,rfl,.inr ⟨_,rfl⟩,?_⟩;simp only[isWhole];rfl';refine ak (ah.of (s5 _ _ hk)) (v:=.int j) rfl ?_;rfl';refine aQ (λh0=>absurd h0 (by lia)) λ_=>ak (ah.of (s5 _ _ hk)) (v:=.int j) rfl ⟨_,dR (ai.of (s5 _ _ hs)),?_⟩;rfl';exact aQ (λh0=>absurd h0 (by lia)) λ_=>hN _ _ ⟨rfl,rfl⟩
    rintro _ yR σ H8 ⟨rfl,rfl⟩;subst yR;rfl';refine ak (ah.of (s5 _ _ hk)) (v:=.int j) rfl (bH (ai.of (s5 _ _ hs)) (cY hvj) ⟨pj,sj.1,sj.2,rfl,ah.of (s5 _ _ hpj),?_⟩);rw[IS hcj];exact q _ s5
   .cases e1;refine aD (λσ H3=>σ=[some wv,some (.ref s),some (.ref gl),some (.ref k),some (.ref z),none]/\H3=H2) (λN hN=>?_) ?_
    .rfl';refine ak (ah.of hk) (v:=.str "at") rfl ?_;rfl'
     first|exact hN _ _ ⟨rfl,rfl⟩|exact aQ (λh=>absurd h (by decide)) λ_=>hN _ _ ⟨rfl,rfl⟩
    rintro _ yR σ H3 ⟨rfl,rfl⟩;subst yR;refine aD (λσ H4=>σ=[some wv,some (.ref s),some (.ref gl),some (.ref k),some (.ref z),none]/\H4=H3) (λN hN=>?_) ?_
    .rfl';refine ak (ah.of hk) (v:=.str "at") rfl ?_;rfl'
     first|exact hN _ _ ⟨rfl,rfl⟩|exact aQ (λh=>absurd h (by decide)) λ_=>hN _ _ ⟨rfl,rfl⟩
    rintro _ yR σ H4 ⟨rfl,rfl⟩;subst yR;refine aD (λσ H5=>∃ l0,σ=[some wv,some (.ref s),some (.ref gl),some (.ref k),some (.ref z),some (.ref l0)]/\aj H4 H5) (λN hN=>?_) ?_
    .rfl';exact⟨by decide,λp hp=>hN _ _ ⟨p,rfl,ao hp⟩⟩
    rintro _ yR σ H5 ⟨l0,rfl,s5⟩;subst yR;refine aD (λσ H6=>σ=[some wv,some (.ref s),some (.ref gl),some (.ref k),some (.ref z),some (.ref l0)]/\H6=H5) (λN hN=>?_) ?_
    .rfl';refine ak (ah.of (s5 _ _ hk)) (v:=.str "at") rfl ?_;rfl'
     first|exact hN _ _ ⟨rfl,rfl⟩|exact aQ (λh=>absurd h (by decide)) λ_=>hN _ _ ⟨rfl,rfl⟩
    rintro _ yR σ H6 ⟨rfl,rfl⟩;subst yR;refine aD (λσ H7=>σ=[some wv,some (.ref s),some (.ref gl),some (.ref k),some (.ref z),some (.ref gl)]/\H7=H6) (λN hN=>?_) ?_
    .rfl';refine ak (ah.of (s5 _ _ hk)) (v:=.str "at") rfl ?_;rfl'
     first|exact hN _ _ ⟨rfl,rfl⟩|exact aQ (λh=>absurd h (by decide)) λ_=>hN _ _ ⟨rfl,rfl⟩
    rintro _ yR σ H7 ⟨rfl,rfl⟩;subst yR;rw[Yf] at hj;obtain⟨sj,hsj,hcj⟩:=YJ.mp hj;obtain⟨vj,hvj,pj,rfl,hpj⟩:=hG.at hsj;have jl:=(X6.mp hvj).1;refine aD (λσ H8=>σ=[some wv,some (.ref s),some (.ref gl),some (.ref k),some (.ref z),some (.ref gl)]/\H8=H7) (λN hN=>?_) ?_
    .rfl';refine⟨_,n0 (ah.of (s5 _ _ hk)),?_⟩;rfl';refine ak (ah.of (s5 _ _ hk)) (v:=.int j) rfl ⟨_,rfl,.inr ⟨_,rfl⟩,?_⟩;simp only[isWhole];rfl';refine ak (ah.of (s5 _ _ hk)) (v:=.int j) rfl ?_;rfl';refine aQ (λh0=>absurd h0 (by lia)) λ_=>ak (ah.of (s5 _ _ hk)) (v:=.int j) rfl ⟨_,dR (ai.of (s5 _ _ hg)),?_⟩;rfl';exact aQ (λh0=>absurd h0 (by lia)) λ_=>hN _ _ ⟨rfl,rfl⟩
    rintro _ yR σ H8 ⟨rfl,rfl⟩;subst yR;rfl';refine ak (ah.of (s5 _ _ hk)) (v:=.int j) rfl (bH (ai.of (s5 _ _ hg)) (cY hvj) ⟨pj,sj.1,sj.2,rfl,ah.of (s5 _ _ hpj),?_⟩);rw[IS hcj];exact q _ s5
   .cases tt with
    | nil=>exact hv.elim
    | full =>
     obtain⟨r,er,cc⟩:=hp;cases er;refine aD (λ_ _=>False) (λN hN=>?_) (λ_ _ _ _ h=>h.elim);rfl';refine ak (ah.of cc) (v:=.str "full") rfl ?_;rfl';refine⟨_,n0 (ah.of cc),aQ (λ_=>?_) λh0=>absurd rfl h0⟩;obtain⟨r9,rfl,Vf,_⟩:=hW;refine⟨_,dR (ai.of hz),ak (ah.of Vf) (v:=.int m) rfl ?_⟩;rfl';rw[XY,decide_eq_true (show m<((as.length:Nat):Int) from hv)];exact q _ (aj.refl _)
    | cls c a b =>
     obtain⟨r,p,p2,x,y,er,hk,kK,fJ,hx,hy⟩:=id hp;cases er;refine aD (λσ H3=>σ=[some wv,some (.ref s),some (.ref gl),some (.ref k),some (.ref z),none]/\H3=H2) (λN hN=>?_) ?_
     .rfl';refine ak (ah.of hk) (v:=.str "clash") rfl ?_;rfl'
      first|exact hN _ _ ⟨rfl,rfl⟩|exact aQ (λh=>absurd h (by decide)) λ_=>hN _ _ ⟨rfl,rfl⟩
     rintro _ yR σ H3 ⟨rfl,rfl⟩;subst yR;have HA:dk a<N:=by have h2:(if dk a<=dk b then dk b else dk a)+1<N+1:=hh;split at h2<;>lia
     have HB:dk b<N:=by have h2:(if dk a<=dk b then dk b else dk a)+1<N+1:=hh;split at h2<;>lia
     refine aD (λ_ _=>False) (λN9 hN=>?_) (λ_ _ _ _ h=>h.elim);rfl';refine ak (ah.of hk) (v:=.str "clash") rfl ?_;rfl';exact⟨_,n0 (ah.of hk),aQ (λ_=>⟨wv,_,w,s,gl,z,e,t,u,d,m,sl,gs,fs,pp,tb,as,c,a,b,rfl,by lia,hK,hz,by lia,hp,HA,HB,e1,e2,hv,q⟩) λh0=>absurd rfl h0⟩
theorem Vg(T:Tx K mg):Ok P w base 33 T.gx (wc K 10):=Ve T 10
theorem Vh(u d:Int)(ps:List Pa)(n:Nat):((Yn n).map (λ(k:Nat)=>aZ (some (-d),some u) (sel ps "step" (k:Int)))).map fT=cb u d ps n:=by unfold cb;rw[Y8];exact ZK λk _=>rfl
theorem Vi(ps:List Pa)(n:Nat):((Yn n).map (λ(k:Nat)=>aZ (none,none) (sel ps "at" (k:Int)))).map fT=cO ps n:=by unfold cO;rw[Y8];exact ZK λk _=>rfl
inductive Vj(K:XW)(vs:List V)(H:Hp)(Q:VK)(aL:XK):Prop
 | mk(wv v:V)(w cl:Ye)(e t u d m:Int)(tb:Tb)(xs:List V)(ps:List Pa)(_:vs=[wv,.ref cl,v])(_:hU H wv w e t u d m tb)(_:1<=t)(_:t<=12)(_:bX e t tb)(_:ai K H cl xs)(_:de H xs ps)(_:ps.length<=900)(_:ia H v (cb u d ps (t-1).toNat) (cO ps t.toNat) tb m [] 10)(_:∀ H',aj H H'->Q (.bl true) H')
theorem Vk(T:Tx K mg):Ok P w base 34 T.sT (Vj K):=by
 refine bb rM ?_;rintro _ _ _ s H _ Q _ hr ⟨wv,v,w,cl,e,t,u,d,m,tb,xs,ps,rfl,hW,t1,t2,az,hX,hP,hn,hR,q⟩;refine⟨_,(au (aE 3 rM.nd (aT (ae (aH dA af (ax (aa 0) af)) (ae (ax (aa 0) af) ag))))
  (au (k8 (i:=4) (bz.mk (fr:=[3,1]) (ys:=["_law_own","_law_claim"]) rfl (by decide +kernel) rfl (by decide +kernel) rfl rfl (.cons rfl (.cons rfl .nil)) (.cons rfl rfl rfl rfl (.cons rfl rfl rfl rfl .nil)) (by decide) rfl) rfl rM.nd rfl rfl (fE rfl T.dg (ae (aH dA (ax (aa 0) af) af) ag)) (λC s2 H2 ex pn=>⟨cD,(aF (HZ T) hr (ae (aa 1) (ae (aa 2) (ae br (ae (aa 0) ag)))))⟩))
  (au (k8 (i:=5) (bz.mk (fr:=[1]) (ys:=["_law_claim"]) rfl (by decide +kernel) rfl (by decide +kernel) rfl rfl (.cons rfl .nil) (.cons rfl rfl rfl rfl .nil) (by decide) rfl) rfl rM.nd rfl rfl (fE rfl T.dg (ae (ax (aa 0) af) ag)) (λC s2 H2 ex pn=>⟨cD,(aF (HZ T) hr (ae (aT (ae bq (ae bq ag))) (ae (aa 1) (ae br (ae (aa 0) ag)))))⟩))
  (ay (aA (aF (Vg T) hr (ae (aa 0) (ae (aa 4) (ae (aa 5) (ae (aa 2) (ae (ck ag) ag))))))))))),?_⟩
 obtain⟨r,rfl,b5,hT⟩:=id hW;refine aD (λσ H1=>∃ p,σ=[some (.ref r),some (.ref cl),some v,some (.ref p),none,none]/\aj H H1/\H1 p=some (.tup [.int (-d),.int u])) (λN hN=>?_) ?_
 .rfl';refine ak (ah.of b5) (v:=.int d) rfl ?_;rfl';refine ak (ah.of b5) (v:=.int u) rfl ⟨a9,λp hp=>hN _ _ ⟨p,rfl,ao hp,?_⟩⟩;rw[ar,Int.zero_sub]
 rintro _ yR σ H1 ⟨p,rfl,s1,hp⟩;subst yR;refine aD (λσ H2=>∃ s ys,σ=[some (.ref r),some (.ref cl),some v,some (.ref p),some (.ref s),none]/\aj H H2/\H2 s=some (.lst ys)/\aw (λv x=>aI H2 v x.1 x.2) ys ((Yn (t-1).toNat).map (λ(k:Nat)=>aZ (some (-d),some u) (sel ps "step" (k:Int))))) (λN hN=>?_) ?_
 .rfl';refine ak (ah.of (s1 _ _ b5)) (v:=.int t) rfl ?_;rfl';refine⟨by lia,by lia,bR gK (by rw[XY,Yb];exact X5 (by lia:_<=12) (by decide)) (eB (R:=λ_ x (k:Nat)=>x=V.int ((0:Int)+k)) (R':=λH v (x:S2)=>aI H v x.1 x.2) (f:=λ(k:Nat)=>aZ (some (-d),some u) (sel ps "step" (k:Int))) (λ_ _ _ _ _ h=>h) (λ_ _ _ _ s' h=>h.same s') (aw.fj _) (bs:=[]) trivial (λ_ _=>trivial) (λx k _ H2 s2 r Q h=>?_) (λx k _ H2 s2 r Q h=>?_) λH2 zs s2 hz=>?_)⟩
  .rfl';exact h
  .subst r;rfl';refine⟨p,cl,some (-d),some u,xs,ps,"step",_,rfl,ah.of (s2 _ _ hp),(s1.trans s2).seq hX,hP.same (s1.trans s2),by lia,λv H3 s3 hv=>h _ _ s3 ?_⟩;rw[aaN] at hv;exact hv
  .intro l hl;rw[Yj] at hz;exact hN _ _ ⟨l,zs,rfl,s1.trans (s2.trans (ao hl)),ar,hz.imp λ_ _ r=>r.same (ao hl)⟩
 rintro _ yR σ H2 ⟨s,ys,rfl,s2,hs,hS⟩;subst yR;refine aD (λσ H3=>∃ gl zs,σ=[some (.ref r),some (.ref cl),some v,some (.ref p),some (.ref s),some (.ref gl)]/\aj H2 H3/\H3 gl=some (.lst zs)/\aw (λv x=>aI H3 v x.1 x.2) zs ((Yn t.toNat).map (λ(k:Nat)=>aZ (none,none) (sel ps "at" (k:Int))))) (λN hN=>?_) ?_
 .rfl';refine ak (ah.of (s2 _ _ b5)) (v:=.int t) rfl ?_;rfl';refine⟨by lia,by lia,bR gK (by rw[XY,Yb];exact X5 (by lia:_<=12) (by decide)) (eB (R:=λ_ x (k:Nat)=>x=V.int ((0:Int)+k)) (R':=λH v (x:S2)=>aI H v x.1 x.2) (f:=λ(k:Nat)=>aZ (none,none) (sel ps "at" (k:Int))) (λ_ _ _ _ _ h=>h) (λ_ _ _ _ s' h=>h.same s') (aw.fj _) (bs:=[]) trivial (λ_ _=>trivial) (λx k _ H4 s4 r Q h=>?_) (λx k _ H4 s4 r Q h=>?_) λH4 zs s4 hz=>?_)⟩
  .rfl';exact h
  .subst r;rfl';refine⟨a9,λp2 fJ=>?_⟩;have u2:=ao (o:=.tup [.non,.non]) fJ;have U:=s2.trans (s4.trans u2);refine⟨p2,cl,none,none,xs,ps,"at",_,rfl,ah.of ar,U.seq hX,hP.same U,by lia,λv H3 s3 hv=>h _ _ (u2.trans s3) ?_⟩;rw[aaN] at hv;exact hv
  .intro l hl;rw[Yj] at hz;exact hN _ _ ⟨l,zs,rfl,s4.trans (ao hl),ar,hz.imp λ_ _ r=>r.same (ao hl)⟩
 rintro _ yR σ H3 ⟨gl,zs,rfl,s3,hg,hG⟩;subst yR;rfl';refine⟨by decide,λp9 A4=>?_⟩;have u9:=ao (o:=.lst []) A4;have U:=s2.trans (s3.trans u9);refine⟨.ref r,v,w,s,gl,p9,e,t,u,d,m,_,_,tb,[],rfl,by decide,by decide,⟨ys,zs,hW.same U,(s3.trans u9) _ _ hs,hS.imp λ_ _ x=>x.same (s3.trans u9),u9 _ _ hg,hG.imp λ_ _ x=>x.same u9,?_,?_,az.1,λx hx=>?_⟩,ar,by decide,?_,λH' s'=>q _ (U.trans s')⟩
 .rw[XY,XY,Yb,Yb];lia
 .rw[XY,Yb];lia
 .rw[XY,Yb];obtain⟨⟨b1,b2⟩,b3,b4⟩:=az.2 x hx;lia
 .rw[Vh,Vi];exact hR.same U
def d8(i j:Int):Prop:=0<=i/\i<=j/\j<=11
inductive Vl(K:XW)(N:Ye)(vs:List V)(H:Hp)(Q:VK)(E:XK):Prop
 | mk(x C dx:Ye)(i j:Int)(_:vs=[.ref x,.int i,.int j])(_:H x=some (.ins C dx []))(_:b7 K C)(_:cj K C "first")(_:cj K C "last")(_:(¬ d8 i j->E (.ref N) none H))(_:(d8 i j->Q .non (upd H x (.ins C dx [("first",.int i),("last",.int j)]))))
theorem IX(T:Tx K mg):Om P w mg base 1 T.jB (Vl K T.iR):=by
 refine o4 GK ?_;rintro _ _ _ _ H _ _ E _ ⟨x,C,dx,i,j,rfl,hx,hc,n1,n2,q0,q⟩;refine⟨_,(au (aK (cB (QD ed ed ed af (aa 1) (aa 2) (x6 T.Sm rfl))) (ay (jd je rfl T.AQ T.tm rfl (ae br ag))) aJ)
  (au (iG (aa 0) (aa 1) rfl)
  (ay (iG (aa 0) (aa 2) rfl)))),?_⟩
 rfl';have no:∀ D σ,¬ d8 i j->∀ y,uw T.iR E (qb (tC (.str y)) mv) D σ H:=λD σ z y=>⟨by show 1<=Yt;decide,q0 z⟩
 refine aQ (λh1=>aQ (λh2=>aQ (λh3=>no _ _ (λz=>h3 z.2.2) _) λh3=>?_) λh2=>no _ _ (λz=>h2 z.2.1) _) λh1=>no _ _ (λz=>h1 z.1) _;refine⟨_,_,_,hx,hc,n1,(by show 0<1000;decide),_,_,_,ar,hc,n2,(by show 1<1000;decide),?_⟩;rw[ic];exact q ⟨h1,h2,by lia⟩
inductive Vm(C N:Ye)(vs:List V)(H:Hp)(Q:VK)(E:XK):Prop
 | mk(x dx:Ye)(i j l h:Int)(_:vs=[.ref x,.int i,.int j,.int l,.int h])(_:H x=some (.ins C dx []))(_:(¬ (d8 i j/\l<h)->∀ H',SameBut x H H'->E (.ref N) none H'))(_:(d8 i j/\l<h->Q .non (upd H x (.ins C dx [("first",.int i),("last",.int j),("low",.int l),("high",.int h)]))))
theorem IY(T:Tx K mg):Om P w mg base 2 T.lM (Vm T.bF T.iR):=by
 refine o4 GR ?_;rintro _ _ _ _ _ _ _ _ hr ⟨x,dx,i,j,l,h,rfl,hx,q0,q⟩;refine⟨_,(au (fD (Eb rfl T.Hs T.HC (IX T) (hr.mono (by decide)) T.jB.b .nil dn (ae (aa 0) (ae (aa 1) (ae (aa 2) ag)))))
  (au (aK (rn (aa 3) (aa 4)) (ay (jd je rfl T.AQ T.tm rfl (ae br ag))) aJ)
  (au (iG (aa 0) (aa 3) rfl)
  (ay (iG (aa 0) (aa 4) rfl))))),?_⟩
 rfl';refine⟨x,T.bF,dx,i,j,rfl,hx,T.dN,T.pd,T.lZ,λz=>q0 (λy=>z y.1) _ λ_ _ _ e=>e,λhk=>?_⟩;rfl';refine aQ (λh1=>⟨by decide,q0 (λy=>by lia) _ λb o hb e=>by rw[aG hb];exact e⟩) λh1=>?_;refine⟨_,_,_,ar,T.dN,T.sY,(by show 2<1000;decide),_,_,_,ar,T.dN,T.sZ,(by show 3<1000;decide),?_⟩;rw[ic,ic];exact q ⟨hk,by lia⟩
inductive Vn(K:XW)(vs:List V)(H:Hp)(Q:VK)(aL:XK):Prop
 | mk(x C dx:Ye)(fs:List (Str × V))(j:Int)(_:vs=[.ref x])(_:H x=some (.ins C dx fs))(_:b7 K C)(_:cj K C "last")(_:fs.lookup ("last" : Str)=some (.int j))(_:Q (.int j) H)
theorem Vo(T:Tx K mg):Om P w mg base 1 T.gW (Vn K):=by refine kA GL ?_;rintro _ _ _ _ _ _ _ _ _ ⟨x,C,dx,fs,j,rfl,hx,hc,n1,hl,q⟩;refine⟨_,(ay (aA (bS rfl (aa 0) rfl))),?_⟩;rfl';exact⟨_,_,_,hx,hc,n1,_,hl,q⟩
inductive Vp(C N:Ye)(vs:List V)(H:Hp)(Q:VK)(E:XK):Prop
 | mk(x dx:Ye)(i j:Int)(v:V)(_:vs=[.ref x,.int i,.int j,v])(_:H x=some (.ins C dx []))(_:(¬ d8 i j->E (.ref N) none H))(_:(d8 i j->Q .non (upd H x (.ins C dx [("first",.int i),("last",.int j),("stretch",v)]))))
theorem Vq(T:Tx K mg):Om P w mg base 2 T.nu (Vp T.bN T.iR):=by
 refine o4 GO ?_;rintro _ _ _ _ _ _ _ _ hr ⟨x,dx,i,j,v,rfl,hx,q0,q⟩;refine⟨_,(au (fD (Eb rfl T.Hs T.HC (IX T) (hr.mono (by decide)) T.jB.b .nil dn (ae (aa 0) (ae (aa 1) (ae (aa 2) ag)))))
  (ay (iG (aa 0) (aa 3) rfl))),?_⟩
 rfl';refine⟨x,T.bN,dx,i,j,rfl,hx,T.fR,T.sW,T.o9,q0,λhk=>?_⟩;rfl';refine⟨_,_,_,ar,T.fR,T.sX,(by show 2<1000;decide),?_⟩;rw[ic];exact q hk
inductive Vr(K:XW)(vs:List V)(H:Hp)(Q:VK)(aL:XK):Prop
 | mk(p:Ye)(s:S2)(_:vs=[.ref p])(_:H p=some (.tup [ev s.1,ev s.2]))(_:∀ l xs H',aj H H'->H l=none->H' l=some (.lst xs)->cv H' xs (m5 s)->Q (.ref l) H')
theorem Vs(T:Tx K mg):Ok P w base 1 T.rV (Vr K):=by
 refine bb vE ?_;rintro _ _ _ _ H _ _ _ _ ⟨p,⟨lo,hi⟩,rfl,hp,q⟩;refine⟨_,(au (aE 1 vE.nd (iX (cS (ax (aa 0) af)) (ck ag) (ck (ae (aT (ae bq (ae (aH dA (ax (aa 0) af) af) ag))) ag))))
  (au (aE 2 vE.nd (iX (cS (ax (aa 0) af)) (ck ag) (ck (ae (aT (ae (aH bE (ax (aa 0) af) af) (ae bq ag))) ag))))
  (ay (aA (aH ja (aa 1) (aa 2)))))),?_⟩
 rcases lo with _|lo<;>rcases hi with _|hi
 all_goals simp only[qD,qE] at hp
 .rfl';refine ak (ah.of hp) rfl ?_;rfl';refine⟨by decide,λa ha=>?_⟩;have sa:=ao (o:=.lst []) ha;have ea:upd H a (.lst []) a=some (.lst []):=ar;generalize upd H a (.lst [])=Ha at sa ea ⊢;refine ak (ah.of (sa _ _ hp)) rfl ?_;rfl';refine⟨by decide,λb hb=>?_⟩;have sb:=ao (o:=.lst []) hb;have eb:upd Ha b (.lst []) b=some (.lst []):=ar;generalize upd Ha b (.lst [])=Hb at sb eb ⊢;exact⟨_,sb _ _ ea,_,eb,(show 0<=Yt by decide),λc hc=>q c _ _ (sa.trans (sb.trans (ao hc))) ((sa.trans sb).free hc) ar trivial⟩
 .rfl';refine ak (ah.of hp) rfl ?_;rfl';refine⟨by decide,λa ha=>?_⟩;have sa:=ao (o:=.lst []) ha;have ea:upd H a (.lst []) a=some (.lst []):=ar;generalize upd H a (.lst [])=Ha at sa ea ⊢;refine ak (ah.of (sa _ _ hp)) rfl ?_;rfl';refine ak (ah.of (sa _ _ hp)) rfl ?_;rfl';refine⟨a9,λtb tG=>⟨by decide,λb hb=>?_⟩⟩;have sb:=(ao (o:=.tup [.int (hi+1),.non]) tG).trans (ao (o:=.lst [.ref tb]) hb);have eb:upd (upd Ha tb (.tup [.int (hi+1),.non])) b (.lst [.ref tb]) b=some (.lst [.ref tb]):=ar;have kb:aI (upd (upd Ha tb (.tup [.int (hi+1),.non])) b (.lst [.ref tb])) (.ref tb) (some (hi+1)) none:=⟨tb,rfl,(ao hb) _ _ ar⟩
  generalize upd (upd Ha tb (.tup [.int (hi+1),.non])) b (.lst [.ref tb])=Hb at sb eb kb ⊢;exact⟨_,sb _ _ ea,_,eb,(show 1<=Yt by decide),λc hc=>q c _ _ (sa.trans (sb.trans (ao hc))) ((sa.trans sb).free hc) ar ⟨kb.same (ao hc),trivial⟩⟩
 .rfl';refine ak (ah.of hp) rfl ?_;rfl';refine ak (ah.of (hp)) rfl ?_;rfl';refine⟨a9,λta Bq=>⟨by decide,λa ha=>?_⟩⟩;have sa:=(ao (o:=.tup [.non,.int (lo-1)]) Bq).trans (ao (o:=.lst [.ref ta]) ha);have ea:upd (upd H ta (.tup [.non,.int (lo-1)])) a (.lst [.ref ta]) a=some (.lst [.ref ta]):=ar;have ka:aI (upd (upd H ta (.tup [.non,.int (lo-1)])) a (.lst [.ref ta])) (.ref ta) none (some (lo-1)):=⟨ta,rfl,(ao ha) _ _ ar⟩
  generalize upd (upd H ta (.tup [.non,.int (lo-1)])) a (.lst [.ref ta])=Ha at sa ea ka ⊢;refine ak (ah.of (sa _ _ hp)) rfl ?_;rfl';refine⟨by decide,λb hb=>?_⟩;have sb:=ao (o:=.lst []) hb;have eb:upd Ha b (.lst []) b=some (.lst []):=ar;generalize upd Ha b (.lst [])=Hb at sb eb ⊢;exact⟨_,sb _ _ ea,_,eb,(show 1<=Yt by decide),λc hc=>q c _ _ (sa.trans (sb.trans (ao hc))) ((sa.trans sb).free hc) ar ⟨(ka.same sb).same (ao hc),trivial⟩⟩
 .rfl';refine ak (ah.of hp) rfl ?_;rfl';refine ak (ah.of (hp)) rfl ?_;rfl';refine⟨a9,λta Bq=>⟨by decide,λa ha=>?_⟩⟩;have sa:=(ao (o:=.tup [.non,.int (lo-1)]) Bq).trans (ao (o:=.lst [.ref ta]) ha);have ea:upd (upd H ta (.tup [.non,.int (lo-1)])) a (.lst [.ref ta]) a=some (.lst [.ref ta]):=ar;have ka:aI (upd (upd H ta (.tup [.non,.int (lo-1)])) a (.lst [.ref ta])) (.ref ta) none (some (lo-1)):=⟨ta,rfl,(ao ha) _ _ ar⟩
  generalize upd (upd H ta (.tup [.non,.int (lo-1)])) a (.lst [.ref ta])=Ha at sa ea ka ⊢;refine ak (ah.of (sa _ _ hp)) rfl ?_;rfl';refine ak (ah.of (sa _ _ hp)) rfl ?_;rfl';refine⟨a9,λtb tG=>⟨by decide,λb hb=>?_⟩⟩;have sb:=(ao (o:=.tup [.int (hi+1),.non]) tG).trans (ao (o:=.lst [.ref tb]) hb);have eb:upd (upd Ha tb (.tup [.int (hi+1),.non])) b (.lst [.ref tb]) b=some (.lst [.ref tb]):=ar;have kb:aI (upd (upd Ha tb (.tup [.int (hi+1),.non])) b (.lst [.ref tb])) (.ref tb) (some (hi+1)) none:=⟨tb,rfl,(ao hb) _ _ ar⟩
  generalize upd (upd Ha tb (.tup [.int (hi+1),.non])) b (.lst [.ref tb])=Hb at sb eb kb ⊢;exact⟨_,sb _ _ ea,_,eb,(show 2<=Yt by decide),λc hc=>q c _ _ (sa.trans (sb.trans (ao hc))) ((sa.trans sb).free hc) ar ⟨(ka.same sb).same (ao hc),kb.same (ao hc),trivial⟩⟩
inductive Vt(K:XW)(vs:List V)(H:Hp)(Q:VK)(aL:XK):Prop
 | mk(a:Ye)(xs:List V)(ps:List Pa)(_:vs=[.ref a])(_:ai K H a xs)(_:de H xs ps)(_:ps.length<=100)(_:∀ l ys H',aj H H'->H l=none->H' l=some (.lst ys)->aw (dY H H') ys (gk ps)->Q (.ref l) H')
inductive Vu(H:Hp)(a l:Ye)(ps:List Pa)(i:Nat)(σ:St)(H1:Hp):Prop
 | mk(ys:List V)(e:Option V)(_:σ=[some (.ref a),some (.ref l),e])(_:aj H H1)(_:H1 l=some (.lst ys))(_:aw (gQ H l H1) ys (gk (ps.take i)))(_:ys.length<=2 * i)
theorem Vv(T:Tx K mg):Ok P w base 2 T.rW (Vt K):=by
 refine bb vF ?_;rintro _ _ _ s H _ Q _ hr ⟨a,xs,ps,rfl,hS,hP,hn,q⟩;refine⟨_,(au (aE 1 vF.nd (ck ag))
  (au (cW YM rfl (cu (aa 0)) (cp 2 vF.nd) (ay (fD (i9 YW abb abc w6 (aa 1) (ae (cE (bz.mk (fr:=[2]) (ys:=["part"]) rfl (by decide +kernel) rfl (by decide +kernel) rfl rfl (.cons rfl .nil) (.cons rfl rfl rfl rfl .nil) (by decide) rfl) rfl (cu (aF (Vs T) hr (ae (ax (aa 2) af) ag))) (λC s2 H2 ex pn=>⟨cD,(ck (ae (aT (ae (b0 (K:=K) (aa 1) af) (ae (b0 (K:=K) (aa 1) af) (ae (aa 0) ag)))) ag))⟩)) ag)))))
  (ay (aA (aa 1))))),?_⟩
 have hl:=hP.len;rfl';refine⟨by decide,λl dZ=>?_⟩;have s1:=ao (o:=.lst []) dZ;have e1:upd H l (.lst []) l=some (.lst []):=ar;generalize upd H l (.lst [])=H1 at s1 e1 ⊢;refine⟨⟨_,s1.seq hS⟩,kZ (xs:=xs) (Vu H a l ps) ⟨[],_,rfl,s1,e1,trivial,YB _⟩ ?_ ?_ ?_⟩
 .rintro i σ H2 _ ⟨_,_,_,s2,_⟩;exact s2.seq hS
 .rintro i x σ H2 hx ⟨ys,e,rfl,s2,aU,hy,hlen⟩;obtain⟨p,hp,tp,sp,rfl,h1,h2⟩:=hP.get hx;have ot:=s2 _ _ h1;have qC:=s2 _ _ h2;rfl';refine⟨.inl ⟨rfl,_,ai.of aU⟩,ak (ah.of ot) rfl ?_⟩;refine⟨sp,p.2.2,rfl,qC,λo os H3 s3 _ ho mD=>?_⟩;rfl';have qU:=j7.mp mD;have FC:=qU.len;have XG:=uW p.2.2;refine⟨⟨_,ai.of ho⟩,bR eo (X5 (by lia:os.length<=2) (by decide)) (eB (R:=λH x (s:S2)=>aI H x s.1 s.2) (R':=gQ H l) (f:=λs=>[((p.1,p.2.1,s):Pa)]) (λ_ _ _ _ s' h=>h.same s') (λ_ _ _ _ s' h=>h.same s') qU (bs:=[]) trivial (λH' s'=>ai.of (s' _ _ ho)) (λx k _ H4 s4 r Q h=>?_) (λx k _ H4 s4 r Q h=>?_) λH4 zs s4 hz=>?_)⟩
  .rfl';exact h
  .obtain⟨xo,rfl,hxo⟩:=r;have S4:=s3.trans s4;rfl';refine ak (ah.of (S4 _ _ ot)) rfl (ak (ah.of (S4 _ _ ot)) rfl ⟨by decide,λt ht=>⟨by decide,λc hc=>?_⟩⟩);have u1:=ao (o:=.tup [.str p.1,.int p.2.1,.ref xo]) ht;have u2:=ao (o:=.lst [.ref t]) hc;have cl:c≠l:=λz=>by rw[z,u1 _ _ (S4 _ _ aU)] at hc;cases hc
   exact h _ _ (u1.trans u2) ⟨c,[.ref t],rfl,cl,(s2.trans (S4.trans u1)).free hc,ar,⟨t,xo,rfl,u2 _ _ ar,(u1.trans u2) _ _ hxo⟩,trivial⟩
  .intro b hb;rw[Yj] at hz;have S4:=s3.trans s4;have u:=ao (o:=.lst zs) hb;have Br:=hz.len;rw[XY] at Br;have hi:i<xs.length:=(X6.mp hx).1;refine⟨l,b,_,_,rfl,rfl,u _ _ (S4 _ _ aU),ar,X5 (by lia:ys.length+zs.length<=300) (by decide),ys++zs,_,rfl,jb dZ (s2.trans (S4.trans u)),ar,?_,by rw[Yh];lia⟩;rw[QF hp];have a1:=(hy.imp λ_ _ r=>(r.same (S4.trans u)).put (o:=.lst (ys++zs)) (u _ _ (S4 _ _ aU)))
   have a2:=(hz.imp λ_ _ r=>(r.same u).put (o:=.lst (ys++zs)) (u _ _ (S4 _ _ aU)))
   exact a1.app a2
 .rintro σ H2 ⟨ys,e,rfl,s2,aU,hy,hlen⟩;rfl';rw[hl,Zr] at hy;exact q l ys H2 s2 dZ aU (hy.imp λ_ _ r=>r.FI)
inductive Vw(K:XW)(vs:List V)(H:Hp)(Q:VK)(aL:XK):Prop
 | mk(i j:Int)(p:Ye)(s:S2)(_:vs=[.int i,.int j,.ref p])(_:H p=some (.tup [ev s.1,ev s.2]))(_:(0<=i/\i<=12))(_:(-1<=j/\j<=11))(_:∀ l xs H',aj H H'->H l=none->H' l=some (.lst xs)->de H' xs (c6 i j s)->Q (.ref l) H')
theorem wg(T:Tx K mg):Ok P w base 1 T.rX (Vw K):=by
 refine bb GJ ?_;rintro _ _ _ s _ _ Q _ _ ⟨i,j,p,s,rfl,hp,hi,hj,q⟩;refine⟨_,(ay (aA (cE (bz.mk (fr:=[2]) (ys:=["one"]) rfl (by decide +kernel) rfl (by decide +kernel) rfl rfl (.cons rfl .nil) (.cons rfl rfl rfl rfl .nil) (by decide) rfl) rfl (mh rfl T.dg (ae (aa 0) (ae (aH bE (aa 1) af) ag))) (λC s2 H2 ex pn=>⟨cD,(aT (ae br (ae (aa 0) (ae (aa 1) ag))))⟩)))),?_⟩;rfl';refine⟨by lia,by lia,by lia,by lia,bR gK (by rw[XY,Yb];exact X5 (by lia:_<=20) (by decide)) (eB (R:=λ_ x (k:Nat)=>x=V.int (i+k)) (R':=iB) (f:=λ(k:Nat)=>(("at",i+(k:Int),s):Pa)) (λ_ _ _ _ _ h=>h) (λ_ _ _ _ s' h=>h.same s') (aw.fj _) (bs:=[]) trivial (λ_ _=>trivial) (λx k _ H2 s2 r Q h=>?_) (λx k _ H2 s2 r Q h=>?_) λH2 zs s2 hz=>?_)⟩
 .rfl';exact h
 .subst r;rfl';exact⟨by decide,λt ht=>h _ _ (ao ht) ⟨t,p,rfl,ar,(ao ht) _ _ (s2 _ _ hp)⟩⟩
 .intro l hl;refine q l zs _ (s2.trans (ao hl)) (s2.free hl) ar ?_;rw[Yj] at hz;exact hz.imp λ_ _ r=>r.same (ao hl)
noncomputable def wj(i j l h:Int)(n:Nat):List (List Pa):=(Yn n).flatMap λk=>(c6 (i+(k:Nat)+1) j (some h,none)).map λp=>[(("at",i+(k:Nat),none,some l):Pa),p]
theorem Vx(i j l h:Int)(n:Nat):wj i j l h (n+1)=wj i j l h n++(c6 (i+(n:Nat)+1) j (some h,none)).map λp=>[(("at",i+(n:Nat),none,some l):Pa),p]:=by unfold wj;rw[ab2,ab0];simp
inductive Vy(H:Hp)(x r:Ye)(i j l h:Int)(n:Nat)(σ:St)(H1:Hp):Prop
 | mk(ys:List V)(e1 e2:Option V)(_:σ=[some (.ref x),some (.ref r),e1,e2])(_:aj H H1)(_:H1 r=some (.lst ys))(_:aw (gQ H r H1) ys (wj i j l h n))(_:ys.length<=12 * n)
inductive IZ(C:Ye)(vs:List V)(H:Hp)(Q:VK)(aL:XK):Prop
 | mk(x dx:Ye)(i j l h:Int)(_:vs=[.ref x])(_:H x=some (.ins C dx [("first",.int i),("last",.int j),("low",.int l),("high",.int h)]))(_:d8 i j)(_:∀ r ys H',aj H H'->H r=none->H' r=some (.lst ys)->aw (dY H H') ys (oQ i j l h)->Q (.ref r) H')
theorem Vz(T:Tx K mg):Om P w mg base 2 T.kE (IZ T.bF):=by
 refine kA rC ?_;rintro _ _ _ s H _ Q _ hr ⟨x,dx,i,j,l,h,rfl,hx,hk,q⟩;refine⟨_,(au (aE 1 rC.nd (ck ag))
  (au (cW YM rfl (mh rfl T.dg (ae (bS rfl (aa 0) rfl) (ae (bS rfl (aa 0) rfl) ag))) (cp 2 rC.nd) (au (aE 3 rC.nd (ck (ae (aT (ae br (ae (aa 2) (ae (aT (ae bq (ae (bS rfl (aa 0) rfl) ag))) ag)))) ag)))
    (ay (fD (i9 YW abb abc w6 (aa 1) (ae (cE (bz.mk (fr:=[3]) (ys:=["lows"]) rfl (by decide +kernel) rfl (by decide +kernel) rfl rfl (.cons rfl .nil) (.cons rfl rfl rfl rfl .nil) (by decide) rfl) rfl (cu (aF (wg T) hr (ae (aH bE (aa 2) af) (ae (bS rfl (aa 0) rfl) (ae (aT (ae (bS rfl (aa 0) rfl) (ae bq ag))) ag))))) (λC s2 H2 ex pn=>⟨cD,(aH ja (aa 1) (ck (ae (aa 0) ag)))⟩)) ag))))))
  (ay (aA (aa 1))))),?_⟩
 obtain⟨k1,k2,k3⟩:=id hk;rfl';refine⟨by decide,λr b5=>?_⟩;have s1:=ao (o:=.lst []) b5;have e1:upd H r (.lst []) r=some (.lst []):=ar;generalize upd H r (.lst [])=H1 at s1 e1 ⊢;refine⟨_,_,_,s1 _ _ hx,T.dN,T.pd,_,rfl,_,_,_,s1 _ _ hx,T.dN,T.lZ,_,rfl,_,rfl,_,rfl,by lia,by lia,by lia,by lia,?_⟩;refine kY (Vy H x r i j l h) ⟨[],_,_,rfl,s1,e1,trivial,YB _⟩ ?_ ?_
 .rintro k σ H2 gR ⟨ys,_,_,rfl,s2,gy,hy,hlen⟩;rfl';refine⟨_,_,_,s2 _ _ hx,T.dN,T.sY,_,rfl,a9,λa ha=>⟨by decide,λb hb=>⟨by decide,λlo vW=>?_⟩⟩⟩;have sa:=ao (o:=.tup [.non,.int l]) ha;have sb:=ao (o:=.tup [.str "at",.int (i+(k:Int)),.ref a]) hb;have sl:=ao (o:=.lst [.ref b]) vW;have S3:=sa.trans (sb.trans sl);have eb:iB (upd (upd (upd H2 a (.tup [.non,.int l])) b (.tup [.str "at",.int (i+(k:Int)),.ref a])) lo (.lst [.ref b])) (.ref b) (("at",i+(k:Int),none,some l):Pa):=⟨b,a,rfl,sl _ _ ar,(sb.trans sl) _ _ ar⟩
  have I9:(upd (upd (upd H2 a (.tup [.non,.int l])) b (.tup [.str "at",.int (i+(k:Int)),.ref a])) lo (.lst [.ref b])) lo=some (.lst [.ref b]):=ar;generalize upd (upd (upd H2 a (.tup [.non,.int l])) b (.tup [.str "at",.int (i+(k:Int)),.ref a])) lo (.lst [.ref b])=H3 at S3 eb I9 ⊢;rfl';have fA:=S3 _ _ gy;have nH:=S3 _ _ (s2 _ _ hx);refine⟨.inl ⟨rfl,_,ai.of fA⟩,_,_,_,nH,T.dN,T.lZ,_,rfl,_,_,_,nH,T.dN,T.sZ,_,rfl,a9,λc hc=>?_⟩;have sc:=ao (o:=.tup [.int h,.non]) hc;refine⟨_,_,c,(some h,none),rfl,ar,by lia,by lia,λg gs H4 s4 _ hg hG=>?_⟩;have S4:=sc.trans s4;have gq:=hG.len;rw[kr] at gq;rfl';refine⟨⟨_,ai.of hg⟩,bR eo (X5 (by lia:gs.length<=12) (by decide)) (eB (R:=iB) (R':=gQ H r) (f:=λp=>[(("at",i+(k:Int),none,some l):Pa),p]) (λ_ _ _ _ s' h=>h.same s') (λ_ _ _ _ s' h=>h.same s') hG (bs:=[]) trivial (λH' s'=>ai.of (s' _ _ hg)) (λx k _ H5 s5 r Q h=>?_) (λy p _ H5 s5 ry Q h=>?_) λH5 zs s5 hz=>?_)⟩
  .rfl';exact h
  .have S5:=S4.trans s5;rfl';refine⟨by decide,λd hd=>?_⟩;have sd:=ao (o:=.lst [y]) hd;refine⟨_,sd _ _ (S5 _ _ I9),_,ar,(show 2<=Yt by decide),λm hm=>?_⟩;have sm:=ao (o:=.lst ([.ref b]++[y])) hm;have mr:m≠r:=λz=>by rw[z,sd _ _ (S5 _ _ fA)] at hm;cases hm
   exact h _ _ (sd.trans sm) ⟨m,[.ref b,y],rfl,mr,(s2.trans (S3.trans (S5.trans sd))).free hm,ar,(eb.same (S5.trans (sd.trans sm))),ry.same (sd.trans sm),trivial⟩
  .intro d hd;rw[Yj] at hz;have u:=(S4.trans s5).trans (ao (o:=.lst zs) hd);have Br:=hz.len;rw[XY,kr] at Br;refine⟨r,d,_,_,rfl,rfl,u _ _ fA,ar,X5 (by lia:ys.length+zs.length<=300) (by decide),ys++zs,_,_,rfl,jb b5 (s2.trans (S3.trans u)),ar,?_,by rw[Yh];lia⟩;rw[Vx];have a1:=(hy.imp λ_ _ z=>(z.same (S3.trans u)).put (o:=.lst (ys++zs)) (u _ _ fA))
   have a2:=(hz.imp λ_ _ z=>(z.same (ao (o:=.lst zs) hd)).put (o:=.lst (ys++zs)) (u _ _ fA))
   exact a1.app a2
 .rintro σ H2 ⟨ys,_,_,rfl,s2,gy,hy,hlen⟩;rfl';exact q r ys H2 s2 b5 gy (hy.imp λ_ _ z=>z.FI)
inductive VA(K:XW)(vs:List V)(H:Hp)(Q:VK)(aL:XK):Prop
 | mk(x C dx p:Ye)(fs:List (Str × V))(i j:Int)(s:S2)(_:vs=[.ref x,.ref p])(_:H x=some (.ins C dx fs))(_:b7 K C)(_:cj K C "first")(_:cj K C "last")(_:fs.lookup ("first" : Str)=some (.int i))(_:fs.lookup ("last" : Str)=some (.int j))(_:d8 i j)(_:H p=some (.tup [ev s.1,ev s.2]))(_:∀ l xs H',aj H H'->H l=none->H' l=some (.lst xs)->de H' xs (c6 i j s)->Q (.ref l) H')
theorem Ja(T:Tx K mg):Om P w mg base 2 T.gv (VA K):=by refine kA GN ?_;rintro _ _ _ s _ _ _ _ hr ⟨x,C,dx,p,fs,i,j,s,rfl,hx,hc,n1,n2,l1,l2,hk,hp,q⟩;refine⟨_,(ay (aA (aF (wg T) hr (ae (bS rfl (aa 0) rfl) (ae (bS rfl (aa 0) rfl) (ae (aa 1) ag)))))),?_⟩;obtain⟨k1,k2,k3⟩:=hk;rfl';refine⟨_,_,_,hx,hc,n1,_,l1,_,_,_,hx,hc,n2,_,l2,?_⟩;exact⟨i,j,p,s,rfl,hp,by lia,by lia,q⟩
inductive Jb(C:Ye)(vs:List V)(H:Hp)(Q:VK)(aL:XK):Prop
 | mk(x dx p:Ye)(i j:Int)(s:S2)(_:vs=[.ref x])(_:H x=some (.ins C dx [("first",.int i),("last",.int j),("stretch",.ref p)]))(_:d8 i j)(_:H p=some (.tup [ev s.1,ev s.2]))(_:∀ l ys H',aj H H'->H l=none->H' l=some (.lst ys)->aw (dY H H') ys [c6 i j s]->Q (.ref l) H')
theorem VB(T:Tx K mg):Om P w mg base 3 T.kD (Jb T.bN):=by refine kA GP ?_;rintro _ _ _ s _ _ _ _ hr ⟨x,dx,p,i,j,s,rfl,hx,hk,hp,q⟩;refine⟨_,(ay (aA (ck (ae (i4 (aa 0) T.fR T.Hy (Ja T) (hr.mono (by decide)) T.gv.b .nil bC (ae (bS rfl (aa 0) rfl) ag)) ag)))),?_⟩;rfl';refine⟨_,_,hx,rfl,_,_,_,hx,T.fR,T.sX,_,rfl,?_⟩;exact⟨x,T.bN,dx,p,_,i,j,s,rfl,hx,T.fR,T.sW,T.o9,rfl,rfl,hk,hp,λl xs H1 s1 fl hl hP=>⟨by decide,λc hc=>q c _ _ (s1.trans (ao hc)) (s1.free hc) ar ⟨⟨l,xs,rfl,fl,(ao hc) _ _ hl,hP.same (ao hc)⟩,trivial⟩⟩⟩
inductive Jc(C:Ye)(vs:List V)(H:Hp)(Q:VK)(aL:XK):Prop
 | mk(x dx p:Ye)(i j:Int)(s:S2)(_:vs=[.ref x])(_:H x=some (.ins C dx [("first",.int i),("last",.int j),("stretch",.ref p)]))(_:d8 i j)(_:H p=some (.tup [ev s.1,ev s.2]))(_:∀ l ys H',aj H H'->H l=none->H' l=some (.lst ys)->aw (dY H H') ys (gk (c6 i j s))->Q (.ref l) H')
theorem Jd(T:Tx K mg):Om P w mg base 3 T.jC (Jc T.bN):=by refine kA GQ ?_;rintro _ _ _ s _ _ _ _ hr ⟨x,dx,p,i,j,s,rfl,hx,hk,hp,q⟩;refine⟨_,(ay (aA (aF (Vv T) hr (ae (i4 (aa 0) T.fR T.Hy (Ja T) (hr.mono (by decide)) T.gv.b .nil bC (ae (bS rfl (aa 0) rfl) ag)) ag)))),?_⟩;rfl';refine⟨_,_,hx,rfl,_,_,_,hx,T.fR,T.sX,_,rfl,?_⟩;have hlen:=kr i j s;obtain⟨k1,k2,k3⟩:=id hk;exact⟨x,T.bN,dx,p,_,i,j,s,rfl,hx,T.fR,T.sW,T.o9,rfl,rfl,hk,hp,λl xs H1 s1 _ hl hP=>⟨l,xs,_,rfl,ai.of hl,hP,by lia,λc ys H2 s2 fc hc hy=>q c ys H2 (s1.trans s2) (s1.free fc) hc (hy.imp λ_ _ r=>r.back s1)⟩⟩
noncomputable def ib(i j l h:Int):List (List Pa):=(Yn (j+1-i).toNat).map λk=>c6 i (i+(k:Nat)-1) (some (l+1),none)++c6 (i+(k:Nat)+1) j (none,some (h-1))
inductive Je(C:Ye)(vs:List V)(H:Hp)(Q:VK)(aL:XK):Prop
 | mk(x dx:Ye)(i j l h:Int)(_:vs=[.ref x])(_:H x=some (.ins C dx [("first",.int i),("last",.int j),("low",.int l),("high",.int h)]))(_:d8 i j)(_:∀ r ys H',aj H H'->H r=none->H' r=some (.lst ys)->aw (dY H H') ys (ib i j l h)->Q (.ref r) H')
theorem Jf(T:Tx K mg):Om P w mg base 2 T.jD (Je T.bF):=by
 refine kA GS ?_;rintro _ _ _ s H _ Q _ hr ⟨x,dx,i,j,l,h,rfl,hx,hk,q⟩;refine⟨_,(ay (aA (cE (bz.mk (fr:=[0]) (ys:=["self"]) rfl (by decide +kernel) rfl (by decide +kernel) rfl rfl (.cons rfl .nil) (.cons rfl rfl rfl rfl .nil) (by decide) rfl) rfl (mh rfl T.dg (ae (bS rfl (aa 0) rfl) (ae (aH bE (bS rfl (aa 0) rfl) af) ag))) (λC s2 H2 ex pn=>⟨cD,(aH ja (aF (wg T) hr (ae (bS (K:=K) rfl (aa 1) rfl) (ae (aH dA (aa 0) af) (ae (aT (ae (aH bE (bS (K:=K) rfl (aa 1) rfl) af) (ae bq ag))) ag)))) (aF (wg T) hr (ae (aH bE (aa 0) af) (ae (bS (K:=K) rfl (aa 1) rfl) (ae (aT (ae bq (ae (aH dA (bS (K:=K) rfl (aa 1) rfl) af) ag))) ag)))))⟩)))),?_⟩;obtain⟨k1,k2,k3⟩:=id hk;rfl';refine⟨_,_,_,hx,T.dN,T.pd,_,rfl,_,_,_,hx,T.dN,T.lZ,_,rfl,_,rfl,by lia,by lia,by lia,by lia,?_⟩;refine bR gK (by rw[XY,Yb];exact X5 (by lia:_<=20) (by decide)) (eB (R:=λ_ x (k:Nat)=>x=V.int (i+k)) (R':=dY H) (f:=λ(k:Nat)=>c6 i (i+(k:Int)-1) (some (l+1),none)++c6 (i+(k:Int)+1) j (none,some (h-1))) (λ_ _ _ _ _ h=>h) (λ_ _ _ _ s' h=>h.same s') (aw.fj _) (bs:=[]) trivial (λ_ _=>trivial) (λx k _ H2 s2 r Q h=>?_) (λy k Jg H2 s2 r Q hq=>?_) λH2 zs s2 hz=>?_)
 .rfl';exact h
 .subst r;have Jg:=YF.mp Jg;rfl';have Bs:=s2 _ _ hx;refine⟨_,_,_,Bs,T.dN,T.pd,_,rfl,_,_,_,Bs,T.dN,T.sY,_,rfl,a9,λa ha=>?_⟩;have sa:=ao (o:=.tup [.int (l+1),.non]) ha;refine⟨_,_,a,(some (l+1),none),rfl,ar,by lia,by lia,λg gs H3 s3 _ hg hG=>?_⟩;have nH:=(sa.trans s3) _ _ Bs;rfl';refine⟨_,_,_,nH,T.dN,T.lZ,_,rfl,_,_,_,nH,T.dN,T.sZ,_,rfl,a9,λb hb=>?_⟩;have sb:=ao (o:=.tup [.non,.int (h-1)]) hb;refine⟨_,_,b,(none,some (h-1)),rfl,ar,by lia,by lia,λd ds H4 s4 _ hd hD=>?_⟩;have S4:=sb.trans s4;have l1:=hG.len;have l2:=hD.len;rw[kr] at l1 l2;rfl';refine⟨gs,S4 _ _ hg,ds,hd,X5 (by lia:gs.length+ds.length<=40) (by decide),λc hc=>?_⟩;have sc:=ao (o:=.lst (gs++ds)) hc;exact hq _ _ ((sa.trans s3).trans (S4.trans sc)) ⟨c,gs++ds,rfl,(s2.trans ((sa.trans s3).trans S4)).free hc,ar,aw.app (de.same hG (S4.trans sc)) (de.same hD sc)⟩
 .intro c hc;refine q c zs _ (s2.trans (ao hc)) (s2.free hc) ar ?_;rw[Yj] at hz;exact hz.imp λ_ _ r=>r.same (ao hc)
theorem Bu:(cb u d ps n).length=n:=by unfold cb;rw[XY,Yb]
theorem pJ:(cO ps n).length=n:=by unfold cO;rw[XY,Yb]
theorem Jh{G H:Hp}{v:V}{sw gw:List W2}{tb:Tb}{m:Int}(hl:gw.length=sw.length+1)(ht:∀ r∈tb,r.1.2.toNat<gw.length)(A:Bj G H v sw gw tb m):∃ r,v = .ref r/\((∃ z,H r=some (.tup [.str "never",z])/\∀ L c,¬ gu sw gw tb m L c) ∨ ∃ k cs L,H r=some (.tup [.str "may",.ref k])/\H k=some (.lst (cs.map V.int))/\G k=none/\cs.length=gw.length/\gu sw gw tb m L (bM cs)):=by
 rcases A with ⟨r,k,j,rfl,h1,h2,h3⟩|⟨r,k,j,rfl,h1,h2,h3⟩|⟨r,k,p,pp,gs,rfl,h1,h2,h3,e1,e2,h4⟩|⟨r,k,cs,pp,gs,es,rfl,h1,h2,h3,h4,e1,e2,h5,h6,h7,h8⟩
 .exact⟨r,rfl,.inl ⟨_,h1,λL c z=>by obtain⟨s,e,_⟩:=z.2.1 j none h3;cases e⟩⟩
 .exact⟨r,rfl,.inl ⟨_,h1,λL c z=>by obtain⟨s,e,_⟩:=z.2.2.1 j none h3;cases e⟩⟩
 .refine⟨r,rfl,.inl ⟨_,h1,λL c z=>?_⟩⟩;subst e1 e2;rw[XY] at hl ht;rw[XY] at hl;exact absurd h4 (GB z.1 (vC.mp z.2.1) (zc.mp z.2.2.1) (by lia) (vB.mpr z.2.2.2) (λr hr=>by have:=ht r hr;lia) p [] .nil (λx hx=>by cases hx))
 .subst e1 e2;exact⟨r,rfl,.inr ⟨k,cs,es,h1,h2,h3,h4,h7,vC.mpr h5,zc.mpr h6,vB.mp h8⟩⟩
theorem VC(h:p∈ps):p.2.2∈sel ps p.1 p.2.1:=Yc.mpr ⟨p,Yy.mpr ⟨h,by simp[jt]⟩,rfl⟩
theorem VD{G H:Hp}{v:V}{sw gw:List W2}{tb:Tb}{m:Int}(A:Bj G H v sw gw tb m)(bT:∀ L c,¬ gu sw gw tb m L c):∃ r k,v = .ref r/\H r=some (.tup [.str "never",k])/\ia H k sw gw tb m [] 10:=by
 rcases A with ⟨r,k,j,rfl,h1,h2,h3⟩|⟨r,k,j,rfl,h1,h2,h3⟩|⟨r,k,p,pp,gs,rfl,h1,h2,h3,e1,e2,h4⟩|⟨r,k,cs,pp,gs,es,rfl,h1,h2,h3,h4,e1,e2,h5,h6,h7,h8⟩
 .exact⟨r,_,rfl,h1,.l6 k j rfl h2 h3⟩
 .exact⟨r,_,rfl,h1,.gol k j rfl h2 h3⟩
 .exact⟨r,_,rfl,h1,.pap p pp gs h2 (by lia) e1 e2 h4⟩
 .subst e1 e2;exact absurd ⟨h7,vC.mpr h5,zc.mpr h6,vB.mp h8⟩ (bT es (bM cs))
def gA(u d t m:Int)(tb:Tb)(ps:List Pa):Prop:=∃ L c,gu (cb u d ps (t-1).toNat) (cO ps t.toNat) tb m L c
def tN(H:Hp)(v:V)(ps:List Pa):Prop:=∃ c xs,v = .ref c/\H c=some (.lst xs)/\de H xs ps
def jF(u d t m:Int)(tb:Tb)(H:Hp)(v:V)(ps:List Pa):Prop:=ia H v (cb u d ps (t-1).toNat) (cO ps t.toNat) tb m [] 10
def wk(H H':Hp):Prop:=∀ a xs,H a=some (.tup xs)->H' a=some (.tup xs)
theorem eL.tp(s:wk H H'):∀ {t:Pp} {v:V},eL H v t->eL H' v t
 | .nil,_,h=>h
 | .full,_,⟨r,e,h1⟩=>⟨r,e,s _ _ h1⟩
 | .cls _ _ _,_,⟨r,p,q,x,y,e,h1,h2,h3,h4,h5⟩=>⟨r,p,q,x,y,e,s _ _ h1,s _ _ h2,s _ _ h3,eL.tp s h4,eL.tp s h5⟩
theorem jF.tp(h:jF u d t m tb H v ps)(s:wk H H'):jF u d t m tb H' v ps:=by
 rcases h with ⟨k,j,e,h1,h2⟩|⟨k,j,e,h1,h2⟩|⟨t,pp,gs,h1,h2,h3,h4,h5⟩
 .exact .l6 k j e (s _ _ h1) h2
 .exact .gol k j e (s _ _ h1) h2
 .exact .pap t pp gs (h1.tp s) h2 h3 h4 h5
theorem qo(h:H l=some (.lst xs)):wk H (upd H l o):=λa us e=>by rw[aG λz=>by rw[z,h] at e;cases e];exact e
inductive VE(K:XW)(B:Ye)(vs:List V)(H:Hp)(Q:VK)(aL:XK):Prop
 | mk(x p l:Ye)(e t u d m:Int)(tb:Tb)(ys:List V)(cl:List (List Pa))(_:vs=[.ref x,.ref l])(_:di B H x e t u d m p tb)(_:dC e t u d m)(_:bX e t tb)(_:tb.length<=60)(_:H l=some (.lst ys))(_:aw (tN H) ys cl)(_:cl.length<=200)(_:(∀ ps∈cl,ps.length<=900/\eF t ps))(_:(∀ r k cs L ps H',aj H H'->ps∈cl->H' r=some (.tup [.str "may",.ref k])->H' k=some (.lst (cs.map V.int))->cs.length=t.toNat->gu (cb u d ps (t-1).toNat) (cO ps t.toNat) tb m L (bM cs)->Q (.ref r) H'))(_:(∀ r k zs H',aj H H'->H' r=some (.tup [.str "never",.ref k])->H' k=some (.lst zs)->aw (jF u d t m tb H') zs cl->(∀ ps∈cl,¬ gA u d t m tb ps)->Q (.ref r) H'))
inductive VF(H:Hp)(x l pa:Ye)(u d t m:Int)(tb:Tb)(cl:List (List Pa))(i:Nat)(σ:St)(H1:Hp):Prop
 | mk(zs:List V)(e1 e2:Option V)(_:σ=[some (.ref x),some (.ref l),some (.ref pa),e1,e2])(_:aj H H1)(_:H1 pa=some (.lst zs))(_:aw (jF u d t m tb H1) zs (cl.take i))(_:(∀ ps∈cl.take i,¬ gA u d t m tb ps))
theorem Ji(T:Tx K mg):Ok P w base 21 T.iL (VE K T.aN):=by
 refine gV rG ?_;rintro _ A _ _ H _ _ _ hr ⟨x,p,l,e,t,u,d,m,tb,ys,cl,rfl,hB,c7,bG,eV,hl,hC,bh,az,q1,q2⟩;refine⟨_,(au (aE 2 rG.nd (ck ag))
  (au (cW abu rfl (cu (aa 1)) (cp 3 rG.nd) (au (aE 4 rG.nd (bQ (IJ T) (hr.mono (by decide)) rfl T.x_ask.m T.x_ask.F.kp T.x_ask.b .nil dn (ae (aa 0) (ae (aa 3) ag))))
    (au (aK (bZ (ax (aa 4) af) br) (ay (aA (aa 4))) aJ)
    (ay (fD (i9 YW ZT ZU qk (aa 2) (ae (ax (aa 4) af) ag)))))))
  (ay (aA (aT (ae br (ae (aa 2) ag))))))),?_⟩
 obtain⟨⟨e1,e7⟩,⟨t1,t2⟩,u0,d0,m0,me⟩:=id c7;have yl:=hC.len;refine aD (λσ H1=>∃ pa,σ=[some (.ref x),some (.ref l),some (.ref pa),none,none]/\aj H H1/\H pa=none/\H1 pa=some (.lst [])) (λN hN=>?_) ?_
 .rfl';exact⟨YB _,λpa eU=>hN _ _ ⟨pa,rfl,ao eU,eU,ar⟩⟩
 rintro _ yR σ H1 ⟨pa,rfl,s1,fpa,eU⟩;subst yR;rfl';refine⟨⟨_,ai.of (s1 _ _ hl)⟩,kZ (VF H x l pa u d t m tb cl) ⟨[],_,_,rfl,s1,eU,trivial,λ_ z=>by simp at z⟩ (λi σ H2 _ ⟨_,_,_,_,s2,_,_,_⟩=>ai.of (s2 _ _ hl)) ?_ ?_⟩
 .rintro i v σ H2 hv ⟨zs,z1,z2,rfl,s2,Bv,hZ,bT⟩;obtain⟨ps,hps,c,xs,rfl,hc,hP⟩:=hC.get hv;have pin:=Yo hps;obtain⟨pl,wm⟩:=az ps pin;rfl';refine⟨x,p,c,e,t,u,d,m,xs,ps,tb,rfl,hB.same s2,bG,eV,t1,t2,by lia,e7,m0,by lia,ai.of (s2 _ _ hc),hP.same s2,pl,λz=>absurd wm z,λ_ v H3 s3 A=>?_⟩;have S3:=s2.trans s3;by_cases hh:gA u d t m tb ps
  .obtain⟨L0,c0,F0⟩:=hh;obtain⟨rr,rfl,⟨z,hrr,hn⟩|⟨k9,cs,L,hrr,jE,_,hcs,F⟩⟩:=Jh (by rw[Bu,pJ];lia) (λr hr=>by rw[pJ];have:=(bG.2 r hr).2;lia) A
   .exact absurd F0 (hn _ _)
   rw[pJ] at hcs;refine ak (ah.of hrr) rfl ?_;rfl';exact q1 rr k9 cs L ps H3 S3 pin hrr jE hcs F
  .obtain⟨rr,z,rfl,hrr,hR⟩:=VD A λL c F=>hh ⟨L,c,F⟩;refine ak (ah.of hrr) rfl ?_;rfl';have jG:=s3 _ _ Bv;have zl:=hZ.len;have il:=(X6.mp hps).1;rw[aa1] at zl;rw[if_neg (by decide)];refine⟨.inl ⟨rfl,_,ai.of jG⟩,ak (ah.of hrr) rfl ⟨zs,jG,Ze (by lia:_<=200) (by decide),_,_,_,rfl,jb fpa S3,ar,?_,λqs hq=>?_⟩⟩
   .rw[Zi,hps];exact aw.snoc (hZ.imp λ_ _ h=>jF.tp (ia.same h s3) (qo jG)) (jF.tp hR (qo jG))
   .rw[Zi,hps] at hq;rcases Yz.mp hq with z|z
    .exact bT qs z
    .obtain rfl:qs=ps:=by simpa using z
     exact hh
 .rintro σ H2 ⟨zs,z1,z2,rfl,s2,Bv,hZ,bT⟩;rw[yl,Zr] at hZ bT;rfl';exact⟨a9,λr hr=>q2 r pa zs _ (s2.trans (ao hr)) ar ((ao hr) _ _ Bv) (hZ.imp λ_ _ h=>ia.same h (ao hr)) bT⟩
theorem dY.cm(h:dY G H v ps):tN H v ps:=let ⟨c,xs,e,_,a,b⟩:=h;⟨c,xs,e,a,b⟩
def kM(u d t m:Int)(tb:Tb)(cl:List (List Pa)):Prop:=gA u d t m tb []/\∀ ps∈cl,¬ gA u d t m tb ps
theorem wq(h:p∈c6 i j s):p.1 = "at" /\ i<=p.2.1/\p.2.1<=j:=by unfold c6 at h;obtain⟨k,hk,rfl⟩:=Yc.mp h;have:=YF.mp hk;exact⟨rfl,by show i<=i+(k:Int);lia,by show i+(k:Int)<=j;lia⟩
theorem wt{t:Int}{ps:List Pa}(h:∀ p∈ps,p.1 = "at" /\ 0<=p.2.1/\p.2.1<t):eF t ps:=λp hp=>by obtain⟨e,h1,h2⟩:=h p hp;rw[e];exact (OF (show (ZI "at")≠ZI "step" by decide)).mpr ⟨rfl,h1,h2⟩
theorem VG(hk:d8 i j)(hj:j<t):∀ ps∈ib i j l h,ps.length<=900/\eF t ps:=λps hp=>by
 obtain⟨k0,k1,k2⟩:=hk;unfold ib at hp;obtain⟨k,hk,rfl⟩:=Yc.mp hp;have:=YF.mp hk;refine⟨by rw[Yh,kr,kr];lia,wt λp hp=>?_⟩;rcases Yz.mp hp with z|z
 .obtain⟨a,b,c⟩:=wq z;exact⟨a,by lia,by lia⟩
 .obtain⟨a,b,c⟩:=wq z;exact⟨a,by lia,by lia⟩
theorem VH(hk:d8 i j)(hj:j<t):∀ ps∈oQ i j l h,ps.length<=900/\eF t ps:=λps hp=>by
 obtain⟨k0,k1,k2⟩:=hk;unfold oQ at hp;obtain⟨k,hk,hq⟩:=abI.mp hp;obtain⟨p0,VI,rfl⟩:=Yc.mp hq;have:=YF.mp hk;obtain⟨a,b,c⟩:=wq VI;refine⟨(show 2<=900 by decide),wt λp hp=>?_⟩;rcases Yi.mp hp with rfl|z
 .exact⟨rfl,by show 0<=i+(k:Int);lia,by show i+(k:Int)<t;lia⟩
 .rw[YG.mp z];exact⟨a,by lia,by lia⟩
theorem wu:∀ {l:List Nat},(∀ x∈l,x<=n)->l.sum<=n * l.length
 | [],_=>X9 _
 | x::l,h=>by have a:=h x (.head _);have b:=wu λy hy=>h y (.tail _ hy);rw[ad5,YY,Nat.mul_succ];lia
theorem VJ(hk:d8 i j):(oQ i j l h).length<=200:=by
 obtain⟨k0,k1,k2⟩:=hk;unfold oQ;rw[ab3];refine X5 (wu (n:=11) λx hx=>?_) ?_
 .obtain⟨k,hk,rfl⟩:=Yc.mp hx;rw[XY,kr];have:=YF.mp hk;lia
 .rw[XY,Yb];lia
inductive Ev where
 | rose (i j l h:Int)
 | cK (i j:Int) (s:S2)
noncomputable def tO:Ev->Int
 | .rose _ j _ _=>j
 | .cK _ j _=>j
def tP:Ev->Prop
 | .rose i j _ _=>d8 i j
 | .cK i j _=>d8 i j
noncomputable def brkE:Ev->List (List Pa)
 | .rose i j l h=>ib i j l h
 | .cK i j s=>gk (c6 i j s)
noncomputable def Bw:Ev->List (List Pa)
 | .rose i j l h=>oQ i j l h
 | .cK i j s=>[c6 i j s]
def nI(T:Tx K mg)(H:Hp)(v:Ye):Ev->Prop
 | .rose i j l h=>∃ dx,H v=some (.ins T.bF dx [("first",.int i),("last",.int j),("low",.int l),("high",.int h)])
 | .cK i j s=>∃ dx p,H v=some (.ins T.bN dx [("first",.int i),("last",.int j),("stretch",.ref p)])/\H p=some (.tup [ev s.1,ev s.2])
theorem nI.same(h:nI T H v ee)(s:aj H H'):nI T H' v ee:=by
 cases ee with
 | rose i j l h'=>obtain⟨dx,a⟩:=h;exact⟨dx,s _ _ a⟩
 | cK i j w=>obtain⟨dx,p,a,b⟩:=h;exact⟨dx,p,s _ _ a,s _ _ b⟩
theorem VL{t:Int}{ps:List Pa}(h:∀ p∈ps,p.1 = "at" /\ 0<=p.2.1/\p.2.1<t):∀ qs∈gk ps,qs.length<=900/\eF t qs:=λqs hq=>by unfold gk at hq;obtain⟨p,hp,hq⟩:=abI.mp hq;obtain⟨o,_,rfl⟩:=Yc.mp hq;refine⟨(show 1<=900 by decide),wt λz hz=>?_⟩;rw[YG.mp hz];exact h p hp
theorem Jj(hg:tP ee)(hj:tO ee<t):(∀ ps∈brkE ee,ps.length<=900/\eF t ps)/\(∀ ps∈Bw ee,ps.length<=900/\eF t ps)/\(brkE ee).length<=200/\(Bw ee).length<=200:=by
 cases ee with
 | rose i j l h =>
  refine⟨VG hg hj,VH hg hj,?_,VJ hg⟩;show (ib i j l h).length<=200;obtain⟨_,_,_⟩:=hg;unfold ib;rw[XY,Yb];lia
 | cK i j s =>
  obtain⟨k0,k1,k2⟩:=id hg;replace hj:j<t:=hj;have a:∀ p∈c6 i j s,p.1 = "at" /\ 0<=p.2.1/\p.2.1<t:=λp hp=>by obtain⟨a,b,c⟩:=wq hp;exact⟨a,by lia,by lia⟩
  refine⟨VL a,λps hp=>?_,?_,(show 1<=200 by decide)⟩
  .rw[YG.mp hp];exact⟨by rw[kr];lia,wt a⟩
  .show (gk (c6 i j s)).length<=200;unfold gk;rw[ab3];refine X5 (wu (n:=2) λx hx=>?_) (by rw[XY,kr];lia);obtain⟨p,_,rfl⟩:=Yc.mp hx;rw[XY];exact uW _
theorem Jk{K:XW}{mg:Str->Option X7}{T:Tx K mg}(hv:nI T H v ee)(hk:tP ee)(Q:VK)(cont:∀ b ys H',aj H H'->H' b=some (.lst ys)->aw (tN H') ys (brkE ee)->Q (.ref b) H'):(∃ C dx fs,H v=some (.ins C dx fs)/\b7 K C/\Meth K C "breaks" T.jD.a/\Z3 ("breaks" : Str) fs=none/\Je T.bF [.ref v] H Q E0)∨(∃ C dx fs,H v=some (.ins C dx fs)/\b7 K C/\Meth K C "breaks" T.jC.a/\Z3 ("breaks" : Str) fs=none/\Jc T.bN [.ref v] H Q E0):=by
 cases ee with
 | rose i j l h =>
  obtain⟨dx,hv⟩:=hv;exact .inl ⟨_,_,_,hv,T.dN,T.Si,rfl,v,dx,i,j,l,h,rfl,hv,hk,λb ys H' s _ hb hC=>cont b ys H' s hb (hC.imp λ_ _ r=>dY.cm r)⟩
 | cK i j s =>
  obtain⟨dx,p,hv,hp⟩:=hv;exact .inr ⟨_,_,_,hv,T.fR,T.Sf,rfl,v,dx,p,i,j,s,rfl,hv,hk,hp,λb ys H' s _ hb hC=>cont b ys H' s hb (hC.imp λ_ _ r=>dY.cm r)⟩
theorem VM{K:XW}{mg:Str->Option X7}{T:Tx K mg}(hv:nI T H v ee)(hk:tP ee)(Q:VK)(cont:∀ b ys H',aj H H'->H' b=some (.lst ys)->aw (tN H') ys (Bw ee)->Q (.ref b) H'):(∃ C dx fs,H v=some (.ins C dx fs)/\b7 K C/\Meth K C "ways" T.kE.a/\Z3 ("ways" : Str) fs=none/\IZ T.bF [.ref v] H Q E0)∨(∃ C dx fs,H v=some (.ins C dx fs)/\b7 K C/\Meth K C "ways" T.kD.a/\Z3 ("ways" : Str) fs=none/\Jb T.bN [.ref v] H Q E0):=by
 cases ee with
 | rose i j l h =>
  obtain⟨dx,hv⟩:=hv;exact .inl ⟨_,_,_,hv,T.dN,T.Sh,rfl,v,dx,i,j,l,h,rfl,hv,hk,λb ys H' s _ hb hC=>cont b ys H' s hb (hC.imp λ_ _ r=>dY.cm r)⟩
 | cK i j s =>
  obtain⟨dx,p,hv,hp⟩:=hv;exact .inr ⟨_,_,_,hv,T.fR,T.Se,rfl,v,dx,p,i,j,s,rfl,hv,hk,hp,λb ys H' s _ hb hC=>cont b ys H' s hb (hC.imp λ_ _ r=>dY.cm r)⟩
inductive VN(T:Tx K mg)(vs:List V)(H:Hp)(Q:VK)(aL:XK):Prop
 | mk(x p v:Ye)(e t u d m:Int)(ee:Ev)(tb:Tb)(_:vs=[.ref x,.ref v])(_:di T.aN H x e t u d m p tb)(_:dC e t u d m)(_:bX e t tb)(_:tb.length<=60)(_:nI T H v ee)(_:tP ee)(_:tO ee<t)(_:(kM u d t m tb (brkE ee)->∀ r k zs H',aj H H'->H' r=some (.tup [.str "yes",.ref k])->H' k=some (.lst zs)->aw (jF u d t m tb H') zs (brkE ee)->Q (.ref r) H'))(_:(¬ kM u d t m tb (brkE ee)->∀ r w zs H',aj H H'->w≠("yes" : Str)->H' r=some (.tup (.str w::zs))->Q (.ref r) H'))
theorem Jl(T:Tx K mg):Ok P w base 22 T.iM (VN T):=by
 refine gV rH ?_;rintro _ A _ s H _ Q E hr ⟨x,p,v,e,t,u,d,m,ee,tb,rfl,hB,c7,bG,eV,hv,hk,hj,q1,q2⟩;refine⟨_,(au (aK (cB (cz (i4 (aa 0) T.bO T.tf (tu T) (hr.mono (by decide)) T.gZ.b .nil bC (ae (mZ (aa 1) (Vo T) (hr.mono (by decide)) T.gW.b .nil bC) ag)))) (ay (jd je rfl T.Hr T.vU rfl (ae br ag))) aJ)
  (au (aE 2 rH.nd (bQ (IJ T) (hr.mono (by decide)) rfl T.x_ask.m T.x_ask.F.kp T.x_ask.b .nil dn (ae (aa 0) (ae (ck ag) ag))))
  (au (aK (bZ (ax (aa 2) af) br) (ay (aA (aT (ae br (ae (ax (aa 2) af) ag))))) aJ)
  (au (aE 3 rH.nd (bQ (Ji T) (hr.mono (by decide)) rfl T.iL.m T.iL.F.kp T.iL.b .nil dn (ae (aa 0) (ae (yL (mZ (aa 1) (Jf T) (hr.mono (by decide)) T.jD.b .nil bC) (mZ (aa 1) (Jd T) (hr.mono (by decide)) T.jC.b .nil bC)) ag))))
  (au (aK (bZ (ax (aa 3) af) br) (ay (aA (aT (ae br (ae (ax (aa 3) af) ag))))) aJ)
  (au (aE 4 rH.nd (bQ (Ji T) (hr.mono (by decide)) rfl T.iL.m T.iL.F.kp T.iL.b .nil dn (ae (aa 0) (ae (yL (mZ (aa 1) (Vz T) (hr.mono (by decide)) T.kE.b .nil bC) (mZ (aa 1) (VB T) (hr.mono (by decide)) T.kD.b .nil bC)) ag))))
  (au (aK (bZ (ax (aa 4) af) br) (ay (aA (aT (ae br (ae (ax (aa 4) af) ag))))) aJ)
  (ay (aA (aT (ae br (ae (ax (aa 4) af) (ae (ax (aa 3) af) ag))))))))))))),?_⟩
 obtain⟨⟨e1,e7⟩,⟨t1,t2⟩,u0,d0,m0,me⟩:=id c7;obtain⟨bo,wo,bl,wl⟩:=Jj hk hj;refine aD (λσ H1=>σ=[some (.ref x),some (.ref v),none,none,none]/\H1=H) (λN hN=>?_) ?_
 .obtain⟨⟨bx,hx⟩,hT⟩:=id hB;rfl';obtain⟨kvs,hkv,_⟩:=hT;have f0:0<=tO ee:=by
   cases ee with
   | rose i j l h=>obtain⟨_,_,_⟩:=hk;show 0<=j;lia
   | cK i j s=>obtain⟨_,_,_⟩:=hk;show 0<=j;lia
  have HT:HG T.aN [.ref x,.int (tO ee)] H (λVO H'=>lH VO λk=>if k=false then uw T.iQ E (qb (tC (.str "the event speaks farther than the board's last turn")) mv) { nx:=N,rt:=Q } [some (.ref x),some (.ref v),none,none,none] H' else N [some (.ref x),some (.ref v),none,none,none] H') E0:=by refine⟨x,p,e,t,u,d,m,_,kvs,rfl,⟨⟨bx,hx⟩,hkv⟩,?_⟩;rw[decide_eq_true ⟨f0,hj⟩];exact hN _ _ ⟨rfl,rfl⟩
  cases ee with
  | rose i j l h =>
   obtain⟨dx,hv⟩:=hv;exact⟨_,_,hx,rfl,_,_,_,hv,T.dN,T.Sg,rfl,v,T.bF,dx,_,j,rfl,hv,T.dN,T.lZ,rfl,HT⟩
  | cK i j s =>
   obtain⟨dx,pp,hv,_⟩:=hv;exact⟨_,_,hx,rfl,_,_,_,hv,T.fR,T.Sd,rfl,v,T.bN,dx,_,j,rfl,hv,T.fR,T.o9,rfl,HT⟩
 rintro _ yR σ H1 ⟨rfl,rfl⟩;subst yR;refine aD (λσ H2=>∃ a,σ=[some (.ref x),some (.ref v),some (.ref a),none,none]/\aj H1 H2/\((gA u d t m tb []/\∃ z,H2 a=some (.tup [.str "may",z]))∨(¬ gA u d t m tb []/\∃ z,H2 a=some (.tup [.str "never",z])))) (λN hN=>?_) ?_
 .rfl';refine⟨YB _,λb hb=>?_⟩;have sb:=ao (o:=.lst []) hb;have wm:eF t []:=λp hp=>by cases hp
  refine⟨x,p,b,e,t,u,d,m,[],[],tb,rfl,hB.same sb,bG,eV,t1,t2,by lia,e7,m0,by lia,ai.of ar,trivial,YB _,λz=>absurd wm z,λ_ a H2 s2 A=>?_⟩;obtain⟨rr,rfl,⟨z,hrr,hn⟩|⟨k9,cs,L,hrr,jE,_,hcs,F⟩⟩:=Jh (by rw[Bu,pJ];lia) (λr hr=>by rw[pJ];have:=(bG.2 r hr).2;lia) A
  .exact hN _ _ ⟨rr,rfl,sb.trans s2,.inr ⟨λ⟨L,c,F⟩=>hn L c F,z,hrr⟩⟩
  .exact hN _ _ ⟨rr,rfl,sb.trans s2,.inl ⟨⟨L,_,F⟩,_,hrr⟩⟩
 rintro _ yR σ H2 ⟨a,rfl,s2,ca⟩;subst yR;refine aD (λσ H3=>σ=[some (.ref x),some (.ref v),some (.ref a),none,none]/\H3=H2/\gA u d t m tb []) (λN hN=>?_) ?_
 .rfl';rcases ca with ⟨hh,z,ha⟩|⟨hh,z,ha⟩
  .refine ak (ah.of ha) rfl ?_;rfl';rw[if_neg (by decide)];exact hN _ _ ⟨rfl,rfl,hh⟩
  .refine ak (ah.of ha) rfl ?_;rfl';refine ak (ah.of ha) rfl ⟨a9,λr hr=>q2 (λz=>hh z.1) r _ _ _ (s2.trans (ao hr)) (by decide) ar⟩
 rintro _ yR σ H3 ⟨rfl,rfl,hh⟩;subst yR;refine aD (λσ H4=>∃ w,σ=[some (.ref x),some (.ref v),some (.ref a),some (.ref w),none]/\aj H3 H4/\(((∃ ps∈brkE ee,gA u d t m tb ps)/\∃ z,H4 w=some (.tup [.str "may",z]))∨((∀ ps∈brkE ee,¬ gA u d t m tb ps)/\∃ k zs,H4 w=some (.tup [.str "never",.ref k])/\H4 k=some (.lst zs)/\aw (jF u d t m tb H4) zs (brkE ee)))) (λN hN=>?_) ?_
 .rfl';refine Jk (hv.same s2) hk _ λb ys H4 s4 hb hC=>?_;refine⟨x,p,b,e,t,u,d,m,tb,ys,_,rfl,(hB.same s2).same s4,c7,bG,eV,hb,hC,bl,bo,λr k9 cs L ps H5 s5 pin hr _ _ F=>hN _ _ ⟨r,rfl,s4.trans s5,.inl ⟨⟨ps,pin,L,_,F⟩,_,hr⟩⟩,λr k9 zs H5 s5 hr jE hR bT=>hN _ _ ⟨r,rfl,s4.trans s5,.inr ⟨bT,k9,zs,hr,jE,hR⟩⟩⟩
 rintro _ yR σ H4 ⟨w,rfl,s4,cw⟩;subst yR;have S4:=s2.trans s4;refine aD (λσ H5=>σ=[some (.ref x),some (.ref v),some (.ref a),some (.ref w),none]/\H5=H4/\¬ kM u d t m tb (brkE ee)) (λN hN=>?_) ?_
 .rfl';rcases cw with ⟨⟨ps,pin,hp⟩,z,hw⟩|⟨bT,k9,zs,hw,jE,hR⟩
  .refine ak (ah.of hw) rfl ?_;rfl';rw[if_neg (by decide)];exact hN _ _ ⟨rfl,rfl,λz=>z.2 ps pin hp⟩
  .refine ak (ah.of hw) rfl ?_;rfl';refine ak (ah.of hw) rfl ⟨a9,λr hr=>q1 ⟨hh,bT⟩ r k9 zs _ (S4.trans (ao hr)) ar ((ao hr) _ _ jE) (hR.imp λ_ _ h=>ia.same h (ao hr))⟩
 rintro _ yR σ H5 ⟨rfl,rfl,f7⟩;subst yR;refine aD (λσ H6=>∃ b,σ=[some (.ref x),some (.ref v),some (.ref a),some (.ref w),some (.ref b)]/\aj H5 H6/\∃ y z,H6 b=some (.tup [.str y,z])) (λN hN=>?_) ?_
 .rfl';refine VM (hv.same S4) hk _ λb ys H6 s6 hb hC=>?_;refine⟨x,p,b,e,t,u,d,m,tb,ys,_,rfl,(hB.same S4).same s6,c7,bG,eV,hb,hC,wl,wo,λr k9 cs L ps H7 s7 pin hr _ _ F=>hN _ _ ⟨r,rfl,s6.trans s7,_,_,hr⟩,λr k9 zs H7 s7 hr jE hR bT=>hN _ _ ⟨r,rfl,s6.trans s7,_,_,hr⟩⟩
 rintro _ yR σ H6 ⟨b,rfl,s6,y,z,hb⟩;subst yR;have S6:=S4.trans s6;rfl';refine ak (ah.of hb) rfl ?_;rw[Gh];refine aQ (λ_=>?_) λ_=>?_
 .refine ak (ah.of hb) rfl ⟨a9,λr hr=>q2 f7 r _ _ _ (S6.trans (ao hr)) (by decide) ar⟩
 .refine ak (ah.of hb) rfl ?_;have hw:∃ y z,H6 w=some (.tup [.str y,z]):=by
   rcases cw with ⟨_,z,hw⟩|⟨_,k9,zs,hw,_⟩
   .exact⟨_,_,s6 _ _ hw⟩
   .exact⟨_,_,s6 _ _ hw⟩
  obtain⟨y2,z2,hw⟩:=hw;refine ak (ah.of hw) rfl ⟨by decide,λr hr=>q2 f7 r _ _ _ (S6.trans (ao hr)) (by decide) ar⟩
noncomputable def tQ(u d t m:Int)(tb:Tb)(l h:Int)(q:P2):Bool:=@decide (kM u d t m tb (ib q.1 q.2 l h)) (Classical.propDecidable _)
theorem Bx:tQ u d t m tb l h q=true↔kM u d t m tb (ib q.1 q.2 l h):=by unfold tQ;exact @decide_eq_true_iff _ (Classical.propDecidable _)
inductive VP(K:XW)(B:Ye)(vs:List V)(H:Hp)(Q:VK)(aL:XK):Prop
 | mk(x p:Ye)(v:V)(e t u d m l h:Int)(q:P2)(tb:Tb)(_:vs=[.ref x,v,.int l,.int h])(_:di B H x e t u d m p tb)(_:dC e t u d m)(_:bX e t tb)(_:tb.length<=60)(_:bD H v q)(_:d8 q.1 q.2)(_:q.2<t)(_:l<h)(_:∀ H',aj H H'->Q (.bl (tQ u d t m tb l h q)) H')
theorem VQ(T:Tx K mg):Ok P w base 23 T.sF (VP K T.aN):=by
 refine gV G4 ?_;rintro _ _ _ _ H _ _ _ hr ⟨x,p,v,e,t,u,d,m,l,h,⟨i,j⟩,tb,rfl,hB,c7,bG,eV,⟨pa,rfl,eU⟩,hk,hj,hlh,Q0⟩;refine⟨_,(ay (aA (eZ nT (ax (bQ (Jl T) (hr.mono (by decide)) rfl T.iM.m T.iM.F.kp T.iM.b .nil dn (ae (aa 0) (ae (uj T.vQ (IY T) (hr.mono (by decide)) rfl T.Ht T.lM.b .nil dn (ae (ax (aa 1) af) (ae (ax (aa 1) af) (ae (aa 2) (ae (aa 3) ag))))) ag))) af) br (c8 _)))),?_⟩;rfl';refine ak (ah.of eU) rfl (ak (ah.of eU) rfl λy dy hy pK ne=>?_);have s1:aj H (upd (upd H dy (.own y)) y (.ins T.bF dy [])):=(ao pK).trans (ao (by rw[aG (Y1 ne)];exact hy));refine⟨y,dy,i,j,l,h,rfl,ar,λz=>absurd ⟨hk,hlh⟩ z,λ_=>⟨rfl,?_⟩⟩;rw[ic];have s2:aj H (upd (upd H dy (.own y)) y (.ins T.bF dy [("first",.int i),("last",.int j),("low",.int l),("high",.int h)])):=(ao pK).trans (ao (by rw[aG (Y1 ne)];exact hy));refine⟨x,p,y,e,t,u,d,m,.rose i j l h,tb,rfl,hB.same s2,c7,bG,eV,⟨dy,ar⟩,hk,hj,λhs r k zs H3 s3 hr _ _=>?_,λhs r w zs H3 s3 hw hr=>?_⟩
 .refine ak (ah.of hr) rfl ⟨rfl,?_⟩;have:=Q0 H3 (s2.trans s3);rw[Bx.mpr hs] at this;exact this
 .refine ak (ah.of hr) (v:=.str w) (cY (rfl:(V.str w::zs)[0]?=some (.str w))) ⟨rfl,?_⟩;have:=Q0 H3 (s2.trans s3);rw[aaO.mpr λz=>hs (Bx.mp z)] at this;rw[decide_eq_false λz=>hw (V.str.inj z)];exact this
noncomputable def kN(a b:P2):Bool:=decide (a≠b) && (decide (b.1<=a.1) && decide (a.2<=b.2))
inductive VR(K:XW)(vs:List V)(H:Hp)(Q:VK)(aL:XK):Prop
 | mk(v w:V)(a b:P2)(_:vs=[v,w])(_:bD H v a)(_:bD H w b)(_:Q (.bl (kN a b)) H)
theorem VS(T:Tx K mg):Ok P w base 1 T.sG (VR K):=by
 refine bb G5 ?_;rintro _ _ _ _ _ _ _ _ hr ⟨v,w,⟨a1,a2⟩,⟨b1,b2⟩,rfl,⟨p,rfl,hp⟩,⟨r,rfl,gy⟩,q⟩;refine⟨_,(ay (aA (gp (eZ (Nt hr.units) (aa 0) (aa 1) (c8 _)) (gp (eZ (gT ed) (ax (aa 1) af) (ax (aa 0) af) (c8 _)) (gD (eZ (gT ed) (ax (aa 0) af) (ax (aa 1) af) (c8 _))))))),?_⟩;rfl';unfold kN at q;refine⟨.tuple [.int a1,.int a2],.tuple [.int b1,.int b2],.tup (ah.of hp) (.cons (.int _) (.cons (.int _) .nil)),.tup (ah.of gy) (.cons (.int _) (.cons (.int _) .nil)),rfl,rfl,by simp[PyData.depth,PyData.depthAll],?_⟩;have ev:PyData.eqv (.tuple [.int a1,.int a2]) (.tuple [.int b1,.int b2])=decide (((a1,a2):P2)=(b1,b2)):=by simp only[PyData.eqv,PyData.eqvAll];by_cases h1:a1=b1<;>by_cases h2:a2=b2<;>simp[h1,h2]
 rw[ev];by_cases h0:((a1,a2):P2)=(b1,b2)
 .rw[decide_eq_true h0];rw[decide_eq_false λz=>z h0] at q;rfl';exact q
 .rw[decide_eq_false h0];rw[decide_eq_true h0] at q;rfl';refine ak (ah.of gy) rfl (ak (ah.of hp) rfl ?_);rfl';refine aQ (λh1=>?_) λh1=>?_
  .refine ak (ah.of hp) rfl (ak (ah.of gy) rfl ?_);rw[decide_eq_true h1] at q;exact q
  .rw[decide_eq_false h1] at q;exact q
theorem VT(h:X.K=K)(hc:X.calm=true):fu X (.builtin "any") (λxs H Q=>∃ (a:Ye) (bs:List Bool),xs=[.ref a]/\ai K H a (bs.map V.bl)/\Q (.bl (bs.any id)) H):=h ▸ xO hc
noncomputable def kO(t:Int)(n:Nat):List P2:=(Yn n).flatMap λ(f:Nat)=>(Yn (t-(0+(f:Int)+1)).toNat).map λ(k:Nat)=>(0+(f:Int),0+(f:Int)+1+(k:Int))
theorem VU(t:Int)(n:Nat):kO t (n+1)=kO t n++(Yn (t-(0+(n:Int)+1)).toNat).map λ(k:Nat)=>(0+(n:Int),0+(n:Int)+1+(k:Int)):=by unfold kO;rw[ab2,ab0];simp
theorem pairs_len(ht:t<=12)(n:Nat):(kO t n).length<=12 * n:=by unfold kO;rw[ab3];refine X5 (wu (n:=12) λx hx=>?_) (by rw[XY,Yb];exact X9 _);obtain⟨k,hk,rfl⟩:=Yc.mp hx;rw[XY,Yb];lia
theorem By:q∈kO t n↔0<=q.1/\q.1<(n:Int)/\q.1<q.2/\q.2<t:=by
 unfold kO;rw[abI];constructor
 .rintro ⟨f,hf,h⟩;obtain⟨k,hk,rfl⟩:=Yc.mp h;have:=YF.mp hf;have:=YF.mp hk;refine⟨?_,?_,?_,?_⟩<;>dsimp only<;>lia
 .obtain⟨a,b⟩:=q;rintro ⟨h1,h2,h3,h4⟩;dsimp only at h1 h2 h3 h4;refine⟨a.toNat,YF.mpr (by lia),Yc.mpr ⟨(b-a-1).toNat,YF.mpr (by lia),?_⟩⟩;exact Prod.ext (by dsimp only;lia) (by dsimp only;lia)
theorem bD.tp(h:bD H v q)(s:wk H H'):bD H' v q:=let ⟨a,e,h⟩:=h;⟨a,e,s _ _ h⟩
noncomputable def fB(u d t m:Int)(tb:Tb)(l h:Int):List P2:=(kO t t.toNat).filter (tQ u d t m tb l h)
noncomputable def jH(u d t m:Int)(tb:Tb)(l h:Int):List P2:=(fB u d t m tb l h).filter λq=>!((fB u d t m tb l h).map λo=>kN o q).any id
inductive Jm(H:Hp)(x pa:Ye)(l h:Int)(t:Int)(i:Nat)(σ:St)(H1:Hp):Prop
 | mk(zs:List V)(e1 e2:Option V)(_:σ=[some (.ref x),some (.int l),some (.int h),some (.ref pa),e1,e2])(_:aj H H1)(_:H1 pa=some (.lst zs))(_:dU H1 zs (kO t i))
inductive VV(K:XW)(B C:Ye)(vs:List V)(H:Hp)(Q:VK)(E:XK):Prop
 | mk(x p:Ye)(e t u d m l h:Int)(tb:Tb)(_:vs=[.ref x,.int l,.int h])(_:di B H x e t u d m p tb)(_:dC e t u d m)(_:bX e t tb)(_:tb.length<=60)(_:(h<=l->E (.ref C) none H))(_:(l<h->∀ r zs H',aj H H'->H r=none->H' r=some (.lst zs)->dU H' zs (jH u d t m tb l h)->Q (.ref r) H'))
theorem VW(T:Tx K mg):Ok P w base 24 T.lO (VV K T.aN T.iR):=by
 refine gV rJ ?_;rintro _ _ _ s H vs Q _ hr ⟨x,p,e,t,u,d,m,l,h,tb,rfl,hB,c7,bG,eV,q0,q⟩;refine⟨_,(au (aK (rn (aa 1) (aa 2)) (ay (jd je rfl T.AQ T.tm rfl (ae br ag))) aJ)
  (au (aE 3 rJ.nd (ck ag))
  (au (cW abu rfl (fE rfl T.dg (ae (bS rfl (aa 0) rfl) ag)) (cp 4 rJ.nd) (ay (fD (i9 YW abb abc w6 (aa 3) (ae (cE (bz.mk (fr:=[4]) (ys:=["first"]) rfl (by decide +kernel) rfl (by decide +kernel) rfl rfl (.cons rfl .nil) (.cons rfl rfl rfl rfl .nil) (by decide) rfl) rfl (mh rfl T.dg (ae (aH bE (aa 4) af) (ae (bS rfl (aa 0) rfl) ag))) (λC s2 H2 ex pn=>⟨cD,(aT (ae (aa 1) (ae (aa 0) ag)))⟩)) ag)))))
  (au (aE 5 rJ.nd (cE (bz.mk (fr:=[0,1,2]) (ys:=["board","low","high"]) rfl (by decide +kernel) rfl (by decide +kernel) rfl rfl (.cons rfl (.cons rfl (.cons rfl .nil))) (.cons rfl rfl rfl rfl (.cons rfl rfl rfl rfl (.cons rfl rfl rfl rfl .nil))) (by decide) rfl) rfl (cu (aa 3)) (λC s2 H2 ex pn=>⟨(gd (cz (aF (VQ T) hr (ae (aa 1) (ae (aa 0) (ae (aa 2) (ae (aa 3) ag))))))),(aa 0)⟩)))
  (ay (aA (Ff (mV.mk (fr:=[5]) (ys:=["sure"]) rfl (λ_ _=>rfl) (λ_=>rfl) rfl (by decide +kernel) rfl rfl (.cons rfl .nil) (.cons rfl rfl rfl rfl .nil) (by decide) rfl) rfl (cu (aa 5)) (λC s2 H2 ex pn=>⟨(gd (cB (cz (aY (VT (K:=K) rfl rfl) (by rfl) T.AM xb (ae (cE (bz.mk (fr:=[0]) (ys:=["pair"]) rfl (by decide +kernel) rfl (by decide +kernel) rfl rfl (.cons rfl .nil) (.cons rfl rfl rfl rfl .nil) (by decide) rfl) rfl (Fd (K:=K) rfl (aa 1)) (λC s2 H2 ex pn=>⟨cD,(aF (VS T) hr (ae (aa 0) (ae (aa 1) ag)))⟩)) ag))))),(aa 0)⟩)))))))),?_⟩
 obtain⟨⟨e1,e7⟩,⟨t1,t2⟩,u0,d0,m0,me⟩:=id c7;obtain⟨⟨bx,hx⟩,hT⟩:=id hB;have tn:((t.toNat:Nat):Int)=t:=by lia
 refine aD (λσ H1=>σ=[some (.ref x),some (.int l),some (.int h),none,none,none]/\H1=H/\l<h) (λN hN=>?_) ?_
 .rfl';exact aQ (λh0=>⟨by decide,q0 h0⟩) λh0=>hN _ _ ⟨rfl,rfl,by lia⟩
 rintro _ yR σ H1 ⟨rfl,rfl,hlh⟩;subst yR;refine aD (λσ H2=>∃ pa,σ=[some (.ref x),some (.int l),some (.int h),some (.ref pa),none,none]/\aj H1 H2/\H1 pa=none/\H2 pa=some (.lst [])) (λN hN=>?_) ?_
 .rfl';exact⟨YB _,λpa eU=>hN _ _ ⟨pa,rfl,ao eU,eU,ar⟩⟩
 rintro _ yR σ H2 ⟨pa,rfl,s2,fpa,eU⟩;subst yR;refine aD (λσ H3=>Jm H1 x pa l h t t.toNat σ H3) (λN hN=>?_) ?_
 .rfl';refine⟨_,_,_,s2 _ _ hx,T.bO,T.kI,_,rfl,t,rfl,by lia,by lia,kY (Jm H1 x pa l h t) ⟨[],_,_,rfl,s2,eU,trivial⟩ ?_ λσ H3 hi=>hN _ _ hi⟩;rintro i σ H3 hi ⟨zs,z1,z2,rfl,s3,jG,hZ⟩;have nH:=s3 _ _ hx;have zl:=hZ.len;rfl';refine⟨.inl ⟨rfl,_,ai.of jG⟩,_,_,_,nH,T.bO,T.kI,_,rfl,t,rfl,by lia,by lia,by lia,by lia,?_⟩;have pl:=pairs_len t2 i;refine bR gK (by rw[XY,Yb];exact X5 (by lia:_<=12) (by decide)) (eB (R:=λ_ x (k:Nat)=>x=V.int ((0:Int)+(i:Int)+1+k)) (R':=bD) (f:=λ(k:Nat)=>(0+(i:Int),0+(i:Int)+1+(k:Int))) (λ_ _ _ _ _ h=>h) (λ_ _ _ _ s' h=>bD.same h s') (aw.fj _) (bs:=[]) trivial (λ_ _=>trivial) (λx k _ H4 s4 r Q h=>?_) (λy k _ H4 s4 r Q h=>?_) λH4 ws s4 hw=>?_)
  .rfl';exact h
  .subst r;rfl';exact⟨a9,λa ha=>h _ _ (ao ha) ⟨a,rfl,ar⟩⟩
  .intro c hc;rw[Yj] at hw;have u4:=s4.trans (ao (o:=.lst ws) hc);have Bz:=u4 _ _ jG;have wl:=hw.len;rw[XY,Yb] at wl;refine⟨pa,c,zs,ws,rfl,rfl,Bz,ar,X5 (by lia:_<=200) (by decide),zs++ws,_,_,rfl,jb fpa (s3.trans u4),ar,?_⟩;rw[VU];exact aw.app (hZ.imp λ_ _ r=>bD.tp (r.same u4) (qo Bz)) (hw.imp λ_ _ r=>bD.tp (r.same (ao hc)) (qo Bz))
 rintro _ yR σ H3 ⟨zs,z1,z2,rfl,s3,jG,hZ⟩;subst yR;refine aD (λσ H4=>∃ su ws z1,σ=[some (.ref x),some (.int l),some (.int h),some (.ref pa),z1,some (.ref su)]/\aj H1 H4/\H4 su=some (.lst ws)/\dU H4 ws (fB u d t m tb l h)) (λN hN=>?_) ?_
 .have pl:=pairs_len t2 t.toNat;have zl:=hZ.len;rfl';refine⟨⟨_,ai.of jG⟩,bR eo (X5 (by lia:_<=200) (by decide)) (qP (R:=bD) (p:=tQ u d t m tb l h) (ys:=[]) (λ_ _ _ _ s' h=>bD.same h s') hZ (λH' s'=>ai.of (s' _ _ jG)) (λv q9 hq H4 s4 r Q9 h9=>?_) (λv H4 s4 Q9 h9=>?_) λH4 ws s4 hw=>?_)⟩
  .obtain⟨b1,b2,b3,b4⟩:=By.mp hq;rfl';exact⟨x,p,v,e,t,u,d,m,l,h,q9,tb,rfl,(hB.same s3).same s4,c7,bG,eV,r,⟨b1,by lia,by lia⟩,b4,hlh,λH5 s5=>h9 _ s5⟩
  .rfl';exact h9
  .intro su nJ;exact hN _ _ ⟨su,ws,_,rfl,s3.trans (s4.trans (ao nJ)),ar,hw.imp λ_ _ r=>r.same (ao nJ)⟩
 rintro _ yR σ H4 ⟨su,ws,z1,rfl,s4,nJ,hW⟩;subst yR;have wl:ws.length<=200:=by rw[hW.len];unfold fB;exact X5 (YH _ _) (X5 (pairs_len t2 _) (by lia))
 rfl';refine⟨⟨_,ai.of nJ⟩,bR eo (X5 wl (by decide)) (qP (R:=bD) (p:=λq9=>!((fB u d t m tb l h).map λo=>kN o q9).any id) (ys:=[]) (λ_ _ _ _ s' h=>bD.same h s') hW (λH' s'=>ai.of (s' _ _ nJ)) (λv q9 hq H5 s5 r Q9 h9=>?_) (λv H5 s5 Q9 h9=>?_) λH5 vs s5 hv=>?_)⟩
 .rfl';refine⟨⟨_,ai.of (s5 _ _ nJ)⟩,bR eo (X5 wl (by decide)) (mI (R:=bD H5) (p:=λ_=>true) (f:=λo=>V.bl (kN o q9)) (ys:=[]) (ai.of (s5 _ _ nJ)) (hW.imp λ_ _ z=>z.same s5) (λv o _ r2 Q h=>?_) (λv o _ _ r2 Q h=>?_) (λl2 aU=>?_))⟩
  .rfl';exact h
  .rfl';exact⟨_,_,o,q9,rfl,r2,r,h⟩
  .have ef:([]:List V)++((fB u d t m tb l h).filter λ_=>true).map (λo=>V.bl (kN o q9))=((fB u d t m tb l h).map λo=>kN o q9).map V.bl:=by rw[Yj,Z7.mpr λ_ _=>rfl,Y8];rfl
   rw[ef];exact⟨l2,rfl,_,ai.of ar,h9 _ (ao aU)⟩
 .rfl';exact h9
 .intro r hr;exact q hlh r vs _ (s4.trans (s5.trans (ao hr))) ((s4.trans s5).free hr) ar (hv.imp λ_ _ z=>z.same (ao hr))
theorem Jn:∀ {zs:List V} {bs:List Bool},aw (λv (b:Bool)=>v=V.bl b) zs bs->zs=bs.map V.bl
 | [],[],_=>rfl
 | _::_,_::_,h=>by rw[h.1,Jn h.2];rfl
inductive VX(T:Tx K mg)(vs:List V)(H:Hp)(Q:VK)(aL:XK):Prop
 | mk(x p w v:Ye)(wv:V)(e t u d m:Int)(ee:Ev)(tb:Tb)(_:vs=[wv,.ref x,.ref v])(_:di T.aN H x e t u d m p tb)(_:hU H wv w e t u d m tb)(_:dC e t u d m)(_:bX e t tb)(_:tb.length<=60)(_:nI T H v ee)(_:tP ee)(_:tO ee<t)(_:kM u d t m tb (brkE ee))(_:∀ H',aj H H'->Q (.bl true) H')
theorem Jo(T:Tx K mg):Ok P w base 35 T.iP (VX T):=by
 refine gV vK ?_;rintro _ _ _ s H _ Q _ hr ⟨x,p,w,v,wv,e,t,u,d,m,ee,tb,rfl,hB,hW,c7,bG,eV,hv,hk,hj,hs,q⟩;refine⟨_,(au (aE 3 vK.nd (bQ (Jl T) (hr.mono (by decide)) rfl T.iM.m T.iM.F.kp T.iM.b .nil dn (ae (aa 1) (ae (aa 2) ag))))
  (au (aE 4 vK.nd (yL (mZ (aa 2) (Jf T) (hr.mono (by decide)) T.jD.b .nil bC) (mZ (aa 2) (Jd T) (hr.mono (by decide)) T.jC.b .nil bC)))
  (au (aK (PW.pt (cf (cB (cz (aY kX (by rfl) T.lW kW (ae (aa 3) (ae (kR (v:=.ty "tuple") rfl T.vN uu rfl) ag))))) (cf (kz (aY cX (by rfl) T.cT cR (ae (aa 3) ag)) af) (dO (kz (ax (aa 3) af) br))))) (ay (aA eY)) aJ)
  (au (aK (PW.pt (cf (cB (cz (aY kX (by rfl) T.lW kW (ae (ax (aa 3) af) (ae (kR (v:=.ty "list") rfl T.AN xf rfl) ag))))) (dO (kz (aY cX (by rfl) T.cT cR (ae (ax (aa 3) af) ag)) (aY cX (by rfl) T.cT cR (ae (aa 4) ag)))))) (ay (aA eY)) aJ)
  (ay (aA (aY (Nj rfl) (by rfl) T.R6 Ma (ae (xA (g:=jO K 2 (cU (cg 0) (cU (cg 1) iZ))) (jX.mk (own:=["_law_claim","_law_paper"]) (fr:=[0]) (ys:=["_law_world_here"]) rfl (by decide +kernel) rfl (by decide +kernel) rfl (.cons rfl .nil) (.cons rfl rfl rfl rfl .nil) rfl) rfl (DO rfl T.Ho (ae (aa 4) (ae (ax (aa 3) af) ag))) (λC s2 H2 ex pn=>jP (n:=2) rfl (dF (fW (i:=0) (show (["_law_claim","_law_paper","_law_world_here"]:List Str).Nodup by decide) rfl (.inl (YA rfl)) (.inr (YA rfl))) (dF (fW (i:=1) (show (["_law_claim","_law_paper","_law_world_here"]:List Str).Nodup by decide) rfl (.inl (YA rfl)) (.inr (YA rfl))) jN))) (λC s2 H2 ex pn=>⟨cD,(aF (Vk T) hr (ae (aa 2) (ae (aa 0) (ae (aa 1) ag))))⟩)) ag)))))))),?_⟩
 refine aD (λσ H2=>∃ r k zs,σ=[some wv,some (.ref x),some (.ref v),some (.ref r),none]/\aj H H2/\H2 r=some (.tup [.str "yes",.ref k])/\H2 k=some (.lst zs)/\aw (jF u d t m tb H2) zs (brkE ee)) (λN hN=>?_) ?_
 .rfl';exact⟨x,p,v,e,t,u,d,m,ee,tb,rfl,hB,c7,bG,eV,hv,hk,hj,λ_ r k zs H2 s2 hr hk hz=>hN _ _ ⟨r,k,zs,rfl,s2,hr,hk,hz⟩,λz=>absurd hs z⟩
 rintro _ yR σ H2 ⟨r,k,zs,rfl,s2,gy,gR,l5⟩;subst yR;refine aD (λσ H3=>∃ b ys,σ=[some wv,some (.ref x),some (.ref v),some (.ref r),some (.ref b)]/\aj H2 H3/\H3 b=some (.lst ys)/\aw (tN H3) ys (brkE ee)) (λN hN=>?_) ?_
 .rfl';exact Jk (hv.same s2) hk _ λb ys H3 s3 hb hC=>hN _ _ ⟨b,ys,rfl,s3,hb,hC⟩
 rintro _ yR σ H3 ⟨b,ys,rfl,s3,BA,Jp⟩;subst yR;have fA:=s3 _ _ gy;have wx:=s3 _ _ gR;have cP:=l5.imp λ_ _ r=>ia.same r s3;have S3:=s2.trans s3;have yl:=Jp.len;have zl:=cP.len;obtain⟨⟨e1,e7⟩,⟨t1,t2⟩,u0,d0,m0,me⟩:=id c7;obtain⟨bo,_,bl,_⟩:=Jj hk hj;rfl';refine uv fA ?_;rfl';refine⟨_,.inr ⟨_,ah.of fA,rfl⟩,?_⟩;rw[if_neg (by simp)];refine ak (ah.of fA) rfl ?_;rfl';refine ak (ah.of fA) rfl (C8 wx ?_);rfl';refine ak (ah.of fA) rfl ⟨_,dR (ai.of wx),_,dR (ai.of BA),?_⟩;rw[if_neg (by rw[yl,zl];simp)];refine ak (ah.of fA) rfl ⟨k,rfl,⟨_,ai.of BA⟩,⟨_,ai.of wx⟩,?_⟩;refine Nq (xs:=ys) (ys:=zs) (X5 (by rw[ae5];lia:_<=200) (by decide)) (yn (R':=λ_ v (b:Bool)=>v=V.bl b) (p:=λ_=>true) (f:=λ_=>true) (bs:=[]) (λ_ _ _ _ _ h=>h) trivial (λH' s'=>⟨ai.of (s' _ _ BA),ai.of (s' _ _ wx)⟩) (λr b5 H' s' Q h=>?_) (λr b5 _ H' s' Q h=>?_) λH' ws s' hw=>?_)
 .rfl';exact h
 .obtain⟨n,hn⟩:=Zh.mp b5;rw[List.getElem?_zip_eq_some] at hn;obtain⟨ps,hps,c,xs,e1,hc,hP⟩:=Jp.get hn.1;obtain⟨VY,Jq,hR⟩:=cP.get hn.2;obtain rfl:ps=VY:=by rw[hps] at Jq;exact Option.some.inj Jq
  obtain⟨pl,wm⟩:=bo ps (Yo hps);rfl';rw[e1];exact⟨wv,r.2,w,c,e,t,u,d,m,tb,xs,ps,rfl,hW.same (S3.trans s'),t1,t2,bG,ai.of (s' _ _ hc),hP.same s',pl,ia.same hR s',λH4 s4=>h _ _ s4 rfl⟩
 .intro l2 aU;rw[Yj] at hw;have ez:=Jn hw;refine⟨l2,rfl,_,by rw[ez];exact ai.of ar,?_⟩;rw[show ((((ys.zip zs).filter λ_=>true).map λ_=>true).all id)=true by rw[afT];exact ZH.mpr λ_ _=>rfl];exact q _ (S3.trans (s'.trans (ao aU)))
theorem VZ(ht:1<=t):q∈fB u d t m tb l h↔(0<=q.1/\q.1<q.2/\q.2<t)/\kM u d t m tb (ib q.1 q.2 l h):=by
 unfold fB;rw[Yy,By,Bx];constructor
 .rintro ⟨⟨a,b,c,d⟩,e⟩;exact⟨⟨a,c,d⟩,e⟩
 .rintro ⟨⟨a,c,d⟩,e⟩;exact⟨⟨a,by lia,c,d⟩,e⟩
theorem Jr:kN a b=true↔a≠b/\b.1<=a.1/\a.2<=b.2:=by unfold kN;simp
theorem V0:q∈jH u d t m tb l h↔q∈fB u d t m tb l h/\∀ o∈fB u d t m tb l h,¬ (o≠q/\q.1<=o.1/\o.2<=q.2):=by
 unfold jH;rw[Yy,aer,<- Bool.not_eq_true,List.any_map,YZ];constructor
 .rintro ⟨a,b⟩;exact⟨a,λo ho hz=>b ⟨o,ho,Jr.mpr hz⟩⟩
 .rintro ⟨a,b⟩;exact⟨a,λ⟨o,ho,hz⟩=>b o ho (Jr.mp hz)⟩
theorem Js:∀ (n:Nat) (q:P2),(q.2-q.1).toNat<=n->q∈fB u d t m tb l h->∃ o∈jH u d t m tb l h,q.1<=o.1/\o.2<=q.2
 | n,q,hn,hq=>by
  by_cases hw:q∈jH u d t m tb l h
  .exact⟨q,hw,Y6 _,Y6 _⟩
  .have:∃ o∈fB u d t m tb l h,o≠q/\q.1<=o.1/\o.2<=q.2:=Classical.byContradiction λz=>hw (V0.mpr ⟨hq,λo ho y=>z ⟨o,ho,y⟩⟩);obtain⟨o,ho,ne,h1,h2⟩:=this;have hp:o.1<o.2:=by unfold fB at ho;exact (By.mp (Yy.mp ho).1).2.2.1
   have lt:(o.2-o.1).toNat<(q.2-q.1).toNat:=by have:¬ (o.1=q.1/\o.2=q.2):=λz=>ne (Prod.ext z.1 z.2);lia
   match n with
   | 0=>lia
   | n+1 =>
    obtain⟨o',cA,a,b⟩:=Js n o (by lia) ho;exact⟨o',cA,by lia,by lia⟩
theorem Jt(h1:i<=(k:Int))(h2:(k:Int)<=j):(("at",(k:Int),s):Pa)∈c6 i j s:=by unfold c6;refine Yc.mpr ⟨((k:Int)-i).toNat,YF.mpr (by lia),?_⟩;rw[show i+(((k:Int)-i).toNat:Int)=(k:Int) by lia]
theorem BB{u d t m:Int}{tb:Tb}{ps:List Pa}{L:List Int}{c:Nat->Int}(F:gu (cb u d ps (t-1).toNat) (cO ps t.toNat) tb m L c){k:Nat}{s:S2}(hk:(k:Int)<t)(hm:(("at",(k:Int),s):Pa)∈ps):(∀ a,s.1=some a->a<=c k)/\∀ a,s.2=some a->c k<=a:=qL.mp (F.2.2.1 k (eE (none,none) (sel _ "at" (k:Int))) (by unfold cO;rw[Yf,YN (by lia)];rfl)) s (VC (p:=("at",(k:Int),s)) hm)
theorem V1{e t u d m:Int}{tb:Tb}{ps:List Pa}{L:List Int}{c:Nat->Int}(he:1<=e)(rA:m<=e)(bG:bX e t tb)(F:gu (cb u d ps (t-1).toNat) (cO ps t.toNat) tb m L c)(k:Nat):vg e t u d m tb k (c k):=by
 have hc:eJ (YT (t-1).toNat (-d,u)) c:=by
  refine vC.mp λj w hw=>?_;rw[List.map_replicate,ZW] at hw;by_cases hj:j<(t-1).toNat
  .rw[if_pos hj] at hw;cases hw;exact⟨_,rfl,qL.mp (F.2.1 j (eE (none,none) ((some (-d),some u)::sel _ "step" (j:Int))) (by unfold cb;rw[Yf,YN hj];rfl)) _ (.head _)⟩
  .rw[if_neg hj] at hw;cases hw
 exact RW he rA bG hc F.1 (vB.mpr F.2.2.2) k
theorem V2{u d t m i j l h:Int}{tb:Tb}{ps:List Pa}{L:List Int}{c:Nat->Int}(hp:ps∈ib i j l h)(hj:j<t)(F:gu (cb u d ps (t-1).toNat) (cO ps t.toNat) tb m L c){k n:Nat}(h1:i<=(k:Int))(h2:k<n)(h3:(n:Int)<=j)(h4:c k<=l)(h5:h<=c n):False:=by
 unfold ib at hp;obtain⟨q,hq,rfl⟩:=Yc.mp hp;by_cases z:(k:Int)<i+(q:Int)
 .have:=(BB F (k:=k) (s:=(some (l+1),none)) (by lia) (Zc _ (Jt h1 (by lia)))).1 (l+1) rfl;lia
 .have:=(BB F (k:=n) (s:=(none,some (h-1))) (by lia) (Ym _ (Jt (by lia) h3))).2 (h-1) rfl;lia
inductive V3(T:Tx K mg)(vs:List V)(H:Hp)(Q:VK)(aL:XK):Prop
 | mk(a x p w f g:Ye)(wv:V)(ns:List Int)(e t u d m:Int)(tb:Tb)(i j:Nat)(s1 s2:S2)(_:vs=[.ref a,wv,.ref x,.int i,.int j,.ref f,.ref g])(_:ai K H a (ns.map V.int))(_:gN ns)(_:di T.aN H x e t u d m p tb)(_:hU H wv w e t u d m tb)(_:dC e t u d m)(_:bX e t tb)(_:tb.length<=60)(_:i<=j)(_:(j:Int)<t)(_:H f=some (.tup [ev s1.1,ev s1.2]))(_:H g=some (.tup [ev s2.1,ev s2.2]))(_:gA u d t m tb [])(_:(∀ ps L c,gu (cb u d ps (t-1).toNat) (cO ps t.toNat) tb m L c->(∀ b,s1.2=some b->c i<=b)/\∀ b,s2.1=some b->b<=c j))(_:∀ H',aj H H'->Q (.bl true) H')
theorem V4(T:Tx K mg):Ok P w base 36 T.lV (V3 T):=by
 refine gV o8 ?_;rintro _ _ _ _ H _ Q _ hr ⟨a,x,p,w,f,g,wv,ns,e,t,u,d,m,tb,i,j,⟨s1,f1⟩,⟨l0,s2⟩,rfl,hS,hn,hB,hW,c7,bG,eV,fG,hj,hf,hg,hh,hfit,q⟩;refine⟨_,(au (aK (PW.pt (cf (cS (ax (aa 5) af)) (cf (cS (ax (aa 6) af)) (dO (rn (ax (aa 5) af) (ax (aa 6) af)))))) (ay (aA eY)) aJ)
  (au (aE 7 o8.nd (aH bE (ax (aa 5) af) (aF (cJ T) hr (ae (aa 0) (ae af (ae af (ae (aY (nU rfl) (by rfl) T.kH jV (ae af (ae (aH dA (ax (aa 6) af) (ax (aa 5) af)) ag))) ag)))))))
  (au (aE 8 o8.nd (aH dA (ax (aa 6) af) (aF (cJ T) hr (ae (aa 0) (ae af (ae af (ae (aY (nU rfl) (by rfl) T.kH jV (ae af (ae (aH dA (ax (aa 6) af) (aa 7)) ag))) ag)))))))
  (au (aE 9 o8.nd (aF (cJ T) hr (ae (aa 0) (ae af (ae af (ae (aH bE (aa 3) af) ag))))))
  (au (aE 10 o8.nd (aH bE (aa 4) (aF (cJ T) hr (ae (aa 0) (ae af (ae af (ae (aH dA (ax (aa 1) af) (aa 4)) ag)))))))
  (au (aK (cB (cz (bQ (Jo T) (hr.mono (by decide)) rfl T.iP.m T.iP.F.kp T.iP.b .nil dn (ae (aa 1) (ae (aa 2) (ae (uj T.vQ (IY T) (hr.mono (by decide)) rfl T.Ht T.lM.b .nil dn (ae (aa 9) (ae (aa 10) (ae (aa 7) (ae (aa 8) ag))))) ag)))))) (ay (aA eY)) aJ)
  (ay (aA (aY (xO rfl) (by rfl) T.AM xb (ae (cE (bz.mk (fr:=[9,10]) (ys:=["_law_first","_law_last"]) rfl (by decide +kernel) rfl (by decide +kernel) rfl rfl (.cons rfl (.cons rfl .nil)) (.cons rfl rfl rfl rfl (.cons rfl rfl rfl rfl .nil)) (by decide) rfl) rfl (cu (bQ (VW T) (hr.mono (by decide)) rfl T.lO.m T.lO.F.kp T.lO.b .nil dn (ae (aa 2) (ae (aa 7) (ae (aa 8) ag))))) (λC s2 H2 ex pn=>⟨cD,(gp (eZ (gT ed) (aa 1) (b0 (K:=K) (aa 0) af) (c8 _)) (gD (eZ (gT ed) (b0 (K:=K) (aa 0) af) (aa 2) (c8 _))))⟩)) ag)))))))))),?_⟩
 obtain⟨⟨e1,e7⟩,⟨t1,t2⟩,u0,d0,m0,me⟩:=id c7;obtain⟨wr,rfl,hwr,hwt⟩:=id hW;refine aD (λσ H1=>σ=[some (.ref a),some (.ref wr),some (.ref x),some (.int (i:Nat)),some (.int (j:Nat)),some (.ref f),some (.ref g),none,none,none,none]/\H1=H/\∃ n1 n2,f1=some n1/\l0=some n2/\n1<n2) (λN hN=>?_) ?_
 .cases f1 with
  | none =>
   rfl';refine ak (ah.of hf) rfl ?_;rfl';exact q _ (aj.refl _)
  | some n1 =>
   cases l0 with
   | none =>
    rfl';refine ak (ah.of hf) rfl ?_;rfl';refine ak (ah.of hg) rfl ?_;rfl';exact q _ (aj.refl _)
   | some n2 =>
    rfl';refine ak (ah.of hf) rfl ?_;rfl';refine ak (ah.of hg) rfl ?_;rfl';refine ak (ah.of hf) rfl (ak (ah.of hg) rfl ?_);rfl';exact aQ (λ_=>q _ (aj.refl _)) λh=>hN _ _ ⟨rfl,rfl,n1,n2,rfl,rfl,by lia⟩
 rintro _ yR σ H1 ⟨rfl,rfl,n1,n2,rfl,rfl,Iy⟩;subst yR;refine aD (λσ H2=>∃ lo,σ=[some (.ref a),some (.ref wr),some (.ref x),some (.int (i:Nat)),some (.int (j:Nat)),some (.ref f),some (.ref g),some (.int lo),none,none,none]/\H2=H1/\n1<=lo/\lo<n2) (λN hN=>?_) ?_
 .rfl';refine ak (ah.of hf) rfl (ak (ah.of hg) rfl (ak (ah.of hf) rfl ?_));have mn:1<=(if n2-n1<5 then n2-n1 else 5)/\(if n2-n1<5 then n2-n1 else 5)<=n2-n1:=by split<;>lia
  exact⟨a,ns,_,_,_,rfl,hS,hn,⟨by decide,by decide⟩,by decide,mn.1,λk k0 k1=>hN _ _ ⟨_,rfl,rfl,by lia,by lia⟩⟩
 rintro _ yR σ H2 ⟨lo,rfl,rfl,lo1,XH⟩;subst yR;refine aD (λσ H3=>∃ hi,σ=[some (.ref a),some (.ref wr),some (.ref x),some (.int (i:Nat)),some (.int (j:Nat)),some (.ref f),some (.ref g),some (.int lo),some (.int hi),none,none]/\H3=H2/\lo<hi/\hi<=n2) (λN hN=>?_) ?_
 .rfl';refine ak (ah.of hg) rfl (ak (ah.of hg) rfl ?_);have mn:1<=(if n2-lo<5 then n2-lo else 5)/\(if n2-lo<5 then n2-lo else 5)<=n2-lo:=by split<;>lia
  exact⟨a,ns,_,_,_,rfl,hS,hn,⟨by decide,by decide⟩,by decide,mn.1,λk k0 k1=>hN _ _ ⟨_,rfl,rfl,by lia,by lia⟩⟩
 rintro _ yR σ H3 ⟨hi,rfl,rfl,V5,yJ⟩;subst yR;refine aD (λσ H4=>∃ fi,σ=[some (.ref a),some (.ref wr),some (.ref x),some (.int (i:Nat)),some (.int (j:Nat)),some (.ref f),some (.ref g),some (.int lo),some (.int hi),some (.int fi),none]/\H4=H3/\0<=fi/\fi<=(i:Int)) (λN hN=>?_) ?_
 .rfl';exact⟨a,ns,_,_,_,rfl,hS,hn,⟨by decide,by decide⟩,by decide,by lia,λk k0 k1=>hN _ _ ⟨k,rfl,rfl,k0,by lia⟩⟩
 rintro _ yR σ H4 ⟨fi,rfl,rfl,Ju,XI⟩;subst yR;refine aD (λσ H5=>∃ la,σ=[some (.ref a),some (.ref wr),some (.ref x),some (.int (i:Nat)),some (.int (j:Nat)),some (.ref f),some (.ref g),some (.int lo),some (.int hi),some (.int fi),some (.int la)]/\H5=H4/\(j:Int)<=la/\la<t) (λN hN=>?_) ?_
 .rfl';refine ak (ah.of hwr) rfl ⟨a,ns,_,_,_,rfl,hS,hn,⟨by decide,by decide⟩,by decide,by lia,λk k0 k1=>?_⟩;rfl';exact hN _ _ ⟨_,rfl,rfl,by lia,by lia⟩
 rintro _ yR σ H5 ⟨la,rfl,rfl,XJ,BC⟩;subst yR;have hk:d8 fi la:=⟨Ju,by lia,by lia⟩
 have hs:kM u d t m tb (ib fi la lo hi):=⟨hh,λps hp ⟨L,c,F⟩=>by
  obtain⟨z1,z2⟩:=hfit ps L c F;have y1:=z1 n1 rfl;have y2:=z2 n2 rfl;have ne:i≠j:=λz=>by subst z;lia
  exact V2 hp BC F (k:=i) (n:=j) (by lia) (by lia) (by lia) (by lia) (by lia)⟩
 refine aD (λσ H6=>σ=[some (.ref a),some (.ref wr),some (.ref x),some (.int (i:Nat)),some (.int (j:Nat)),some (.ref f),some (.ref g),some (.int lo),some (.int hi),some (.int fi),some (.int la)]/\aj H5 H6) (λN hN=>?_) ?_
 .rfl';intro y dy hy pK ne;refine⟨y,dy,fi,la,lo,hi,rfl,ar,λz=>absurd ⟨hk,V5⟩ z,λ_=>⟨rfl,?_⟩⟩;rw[ic];have s2:aj H5 (upd (upd H5 dy (.own y)) y (.ins T.bF dy [("first",.int fi),("last",.int la),("low",.int lo),("high",.int hi)])):=(ao pK).trans (ao (by rw[aG (Y1 ne)];exact hy));refine⟨x,p,w,y,.ref wr,e,t,u,d,m,.rose fi la lo hi,tb,rfl,hB.same s2,hW.same s2,c7,bG,eV,⟨dy,ar⟩,hk,BC,hs,λH6 s6=>?_⟩;rfl';exact hN _ _ ⟨rfl,s2.trans s6⟩
 rintro _ yR σ H6 ⟨rfl,s6⟩;subst yR;rfl';refine⟨x,p,e,t,u,d,m,lo,hi,tb,rfl,hB.same s6,c7,bG,eV,λz=>absurd z (by lia),λ_ r zs H7 s7 _ hr hz=>?_⟩;have wl:(jH u d t m tb lo hi).length<=200:=by unfold jH fB;exact X5 (YH _ _) (X5 (YH _ _) (X5 (pairs_len t2 _) (by lia)))
 have pl:=hz.len;refine⟨r,rfl,⟨_,ai.of hr⟩,bR eo (X5 (by lia:_<=200) (by decide)) (mI (R:=bD H7) (p:=λ_=>true) (f:=λo=>V.bl (decide (fi<=o.1) && decide (o.2<=la))) (ys:=[]) (ai.of hr) hz (λv o _ r2 Q h=>?_) (λv o _ _ r2 Q h=>?_) (λl2 aU=>?_))⟩
 .rfl';exact h
 .obtain⟨b,rfl,hb⟩:=r2;rfl';refine ak (ah.of hb) rfl ?_;rfl';refine aQ (λh1=>?_) λh1=>?_
  .refine ak (ah.of hb) rfl ?_;rw[decide_eq_true h1,acM] at h;exact h
  .rw[decide_eq_false h1,abv] at h;exact h
 .have ef:([]:List V)++((jH u d t m tb lo hi).filter λ_=>true).map (λo=>V.bl (decide (fi<=o.1) && decide (o.2<=la)))=((jH u d t m tb lo hi).map λo=>decide (fi<=o.1) && decide (o.2<=la)).map V.bl:=by rw[Yj,Z7.mpr λ_ _=>rfl,Y8];rfl
  rw[ef];refine⟨l2,rfl,_,ai.of ar,?_⟩;have ij:(i:Int)<j:=by
   obtain⟨L,c,F⟩:=hh;obtain⟨z1,z2⟩:=hfit [] L c F;have y1:=z1 n1 rfl;have y2:=z2 n2 rfl;have ne:i≠j:=λz=>by subst z;lia
   lia
  obtain⟨o,ho,o1,o2⟩:=Js _ (fi,la) (X9 _) ((VZ t1).mpr ⟨⟨Ju,by show fi<la;lia,BC⟩,hs⟩);rw[show ((jH u d t m tb lo hi).map λo=>decide (fi<=o.1) && decide (o.2<=la)).any id=true from YZ.mpr ⟨true,Yc.mpr ⟨o,ho,by rw[decide_eq_true o1,decide_eq_true o2];rfl⟩,rfl⟩];exact q _ (s6.trans (s7.trans (ao aU)))
def V6(H:Hp)(p:Ye)(_:Nat)(σ:St)(H1:Hp):Prop:=(∃ e1,σ=[some (.ref p),e1])/\H1=H
inductive V7(K:XW)(vs:List V)(H:Hp)(Q:VK)(aL:XK):Prop
 | mk(p:Ye)(lo hi:En)(_:vs=[.ref p])(_:H p=some (.tup [ev lo,ev hi]))(_:Q (.bl true) H)
theorem V8(T:Tx K mg):Ok P w base 2 T.sV (V7 K):=by
 refine bb AL ?_;rintro _ _ _ _ H _ _ _ hr ⟨p,lo,hi,rfl,hp,q⟩;refine⟨_,(au (aK (PW.pt (cf (cB (cz (aY kX (by rfl) T.lW kW (ae (aa 0) (ae (kR (v:=.ty "tuple") rfl T.vN uu rfl) ag))))) (dO (kz (aY cX (by rfl) T.cT cR (ae (aa 0) ag)) af)))) (ay (aA eY)) aJ)
  (au (cW YM rfl (t6 (aa 0)) (cp 1 AL.nd) (ay (aK (PW.pt (iW (fg (aa 1)) (jM (cB (cz (aF (vV T) hr (ae (aa 1) ag))))))) (ay (aA eY)) aJ)))
  (ay (aA eY)))),?_⟩
 refine aD (λσ H1=>σ=[some (.ref p),none]/\H1=H) (λN hN=>?_) ?_
 .rfl';refine uv hp ?_;rfl';refine⟨_,.inr ⟨_,ah.of hp,rfl⟩,?_⟩;rw[if_neg (by simp)];exact hN _ _ ⟨rfl,rfl⟩
 rintro _ yR σ H1 ⟨rfl,rfl⟩;subst yR;rfl';refine⟨⟨_,ah.of hp⟩,Mx (V6 H1 p) ⟨⟨_,rfl⟩,rfl⟩ (λi σ H2 _ h=>by rw[h.2];exact ah.of hp) ?_ λσ H2 ⟨⟨_,e⟩,e'⟩=>?_⟩
 .rintro i v σ H2 hv ⟨⟨e1,rfl⟩,rfl⟩;have hv:∃ a:En,v=ev a:=by
   match i,hv with
   | 0,hv=>exact⟨lo,by cases hv;rfl⟩
   | 1,hv=>exact⟨hi,by cases hv;rfl⟩
  obtain⟨a,rfl⟩:=hv;cases a with
  | none =>
   rfl';exact⟨⟨_,rfl⟩,rfl⟩
  | some n =>
   rfl';refine⟨_,rfl,.inr ⟨_,rfl⟩,?_⟩;rfl';exact⟨⟨_,rfl⟩,rfl⟩
 .subst e e';rfl';exact q
inductive V9(K:XW)(vs:List V)(H:Hp)(Q:VK)(aL:XK):Prop
 | mk(a:Ye)(ns:List Int)(n:Int)(_:vs=[.ref a,.int n])(_:ai K H a (ns.map V.int))(_:gN ns)(_:1<=n)(_:n<=3)(_:∀ (r:Ye) (e t u d m f:Int) (H':Hp),aj H H'->H' r=some (.tup (pw e t u d m f))->nz e t u d m f->Q (.ref r) H')
theorem Wa(T:Tx K mg):Ok P w base 3 T.sU (V9 K):=by
 refine bb rN ?_;rintro _ _ _ _ H _ _ _ hr ⟨a,ns,n,rfl,hS,hn,n1,n3,q⟩;refine⟨_,(au (aE 2 rN.nd (aF (SR T) hr (ae (aa 0) ag)))
  (au (aE 3 rN.nd (aH bE af (aF (cJ T) hr (ae (aa 0) (ae af (ae af (ae af ag)))))))
  (au (aE 4 rN.nd (aH bE af (aF (cJ T) hr (ae (aa 0) (ae af (ae af (ae af ag)))))))
  (ay (aA (aT (ae (aY (nU rfl) (by rfl) T.kH jV (ae (aa 1) (ae (ax (aa 2) af) ag))) (ae (aa 3) (ae (aa 4) (ae (ax (aa 2) af) (ae (aY (nU rfl) (by rfl) T.kH jV (ae (ax (aa 2) af) (ae af ag))) (ae (ax (aa 2) af) ag)))))))))))),?_⟩
 refine aD (λσ H1=>∃ r e t u d m f,σ=[some (.ref a),some (.int n),some (.ref r),none,none]/\aj H H1/\H1 r=some (.tup (pw e t u d m f))/\nz e t u d m f) (λN hN=>?_) ?_
 .rfl';exact⟨a,ns,rfl,hS,hn,λr e t u d m f H1 s1 h1 sh=>hN _ _ ⟨r,e,t,u,d,m,f,rfl,s1,h1,sh⟩⟩
 rintro _ yR σ H1 ⟨r,e,t,u,d,m,f,rfl,s1,cc,sh⟩;subst yR;rfl';refine⟨a,ns,_,_,_,rfl,s1.seq hS,hn,⟨by decide,by decide⟩,by decide,by decide,λk k0 k1=>?_⟩;rfl';refine⟨a,ns,_,_,_,rfl,s1.seq hS,hn,⟨by decide,by decide⟩,by decide,by decide,λj j0 j1=>?_⟩;rfl';obtain⟨he,ht,het,hu,hd,hm,hf⟩:=sh;refine ak (ah.of cc) rfl ⟨e,rfl,ak (ah.of cc) rfl (ak (ah.of cc) rfl ⟨m,rfl,ak (ah.of cc) rfl ⟨by decide,λp hp=>q p _ _ _ _ _ _ _ (s1.trans (ao hp)) ar ?_⟩⟩)⟩;have a1:1<=(if e<n then e else n)/\(if e<n then e else n)<=3:=by split<;>lia
 have a2:0<=(if 1<m then 1 else m)/\(if 1<m then 1 else m)<=1:=by split<;>lia
 exact⟨⟨a1.1,by lia⟩,⟨by lia,by lia⟩,.inl ⟨a1.2,by lia⟩,⟨by lia,by lia⟩,hd,⟨a2.1,by lia⟩,hf⟩
inductive Wb(K:XW)(vs:List V)(H:Hp)(Q:VK)(aL:XK):Prop
 | mk(n:Nat)(_:vs=[.int n])(_:n<=7)(_:∀ l ys H',aj H H'->H' l=some (.lst ys)->aw (kg H') ys (cI n)->Q (.ref l) H')
inductive Wc(H:Hp)(n i:Nat)(σ:St)(H1:Hp):Prop
 | mk(l:Ye)(ys:List V)(e:Option V)(_:σ=[some (.int n),some (.ref l),e])(_:aj H H1)(_:H1 l=some (.lst ys))(_:aw (kg H1) ys (cI i))
theorem Wd(T:Tx K mg):Ok P w base 1 T.sE (Wb K):=by
 refine bb rE ?_;rintro _ _ _ s H _ Q _ _ ⟨n,rfl,hn,q⟩;refine⟨_,(au (aE 1 rE.nd (ck (ae (ck ag) ag)))
  (au (cW YM rfl (fE rfl T.dg (ae (aa 0) ag)) (cp 2 rE.nd) (ay (aE 1 rE.nd (aH ja (aa 1) (cE (bz.mk (fr:=[2]) (ys:=["eye"]) rfl (by decide +kernel) rfl (by decide +kernel) rfl rfl (.cons rfl .nil) (.cons rfl rfl rfl rfl .nil) (by decide) rfl) rfl (cu (aa 1)) (λC s2 H2 ex pn=>⟨cD,(aH ja (aa 0) (ck (ae (aa 1) ag)))⟩))))))
  (ay (aA (aa 1))))),?_⟩
 rfl';refine⟨YB _,λp hp=>⟨by decide,λr b5=>⟨by lia,by lia,?_⟩⟩⟩;have u1:=ao (o:=.lst []) hp;have u2:=ao (o:=.lst [.ref p]) b5;rw[YS];refine kY (Wc H n) ⟨r,_,_,rfl,u1.trans u2,ar,⟨⟨p,rfl,u2 _ _ ar⟩,trivial⟩⟩ ?_ ?_
 .rintro i σ H1 hi ⟨l,ys,e,rfl,s1,hl,hy⟩;have yl:=hy.len;rw[qQ] at yl;have p2:2 ^ i<=2 ^ 7:=abJ (by decide) (by lia);rfl';refine⟨⟨_,ai.of hl⟩,bR eo (X5 (by lia:ys.length<=128) (by decide)) (eB (R:=kg) (R':=kg) (f:=λs=>s++[((i:Nat):Int)]) (λ_ _ _ _ s' h=>h.same s') (λ_ _ _ _ s' h=>h.same s') hy (bs:=[]) trivial (λH' s'=>ai.of (s' _ _ hl)) (λx s _ H2 s2 r Q h=>?_) (λx s hs H2 s2 r Q h=>?_) λH2 zs s2 hz=>?_)⟩
  .rfl';exact h
  .obtain⟨a,rfl,ha⟩:=r;have sl:=qR i s hs;rfl';refine⟨by decide,λb hb=>⟨_,(ao hb) _ _ ha,_,ar,X5 (by rw[XY];show s.length+1<=20;lia) (by decide),λc hc=>h _ _ ((ao hb).trans (ao hc)) ⟨c,rfl,?_⟩⟩⟩;rw[ar,Zg,show (0:Int)+(i:Int)=((i:Nat):Int) by lia];rfl
  .rw[Yj] at hz;intro d hd;have ud:=ao (o:=.lst zs) hd;have zl:=hz.len;rw[XY,qQ] at zl;refine⟨d,rfl,ys,(s2.trans ud) _ _ hl,zs,ar,X5 (by lia:ys.length+zs.length<=256) (by decide),λc hc=>?_⟩;have uc:=ao (o:=.lst (ys++zs)) hc;exact⟨c,_,_,rfl,s1.trans (s2.trans (ud.trans uc)),ar,(hy.imp λ_ _ r=>r.same (s2.trans (ud.trans uc))).app (hz.imp λ_ _ r=>r.same (ud.trans uc))⟩
 .rintro σ H1 ⟨l,ys,e,rfl,s1,hl,hy⟩;rfl';exact q l ys H1 s1 hl hy
theorem We(hx:ai K H x xs)(hP:dU H xs ps)(hy:ai K H y ys)(hM:aw (dM H) ys ms)(az:cZ ps)(hn:ps.length<=41)(hm:ms.length<=64)(q:∀ f H',aj H H'->kh H' f (fM ps ms)->Q f H'):Ig K [.ref x,.ref y] H Q E0:=by
 refine⟨x,y,xs,ys,ps,ms,rfl,hx,hP,hy,hM,az,by lia,by lia,λt ht en H' s'=>q _ _ s' ?_,λa7 l zs ss H' s' fl hl hz jc fz=>q _ _ s' ?_⟩
 .have e:fM ps ms=none:=if_pos (YZ.mpr ⟨t,YF.mpr (by lia),by rw[en];rfl⟩);rw[e];rfl
 .have e0:¬ ((Yn (ps.length+1)).any λt=>(aR (bB ms) (aC ps) t).isNone)=true:=λz=>by obtain⟨t,ht,h⟩:=YZ.mp z;exact a7 t (by have:=YF.mp ht;lia) (ach.mp h)
  have e:fM ps ms=some ss:=by
   unfold fM;rw[if_neg e0]
   congr 1
   refine aap λt=>?_;by_cases ht:t<ps.length+1
   .have es:ss[t]?=some (ba ss t):=by unfold ba;rw[XZ,X0 (by lia)];rfl
    rw[Yf,YN ht,es];simp only[Option.map_some];rw[fz t (by lia)];rfl
   .rw[Y9 (by rw[XY,Yb];lia),Y9 (by lia)]
  rw[e];exact⟨l,zs,rfl,hl,hz⟩
theorem Wf(h : -d<=u):∀ {n:Nat} {ys:List V},aw (dW H) ys (cb u d [] n)->dU H ys (YT n (-d,u)):=by
 intro n ys hy;have e:cb u d [] n=(Yn n).map λ_=>some (some (-d),some u):=by
  unfold cb;refine ZK λk _=>?_;show eE (none,none) [(some (-d),some u)]=some (some (-d),some u);unfold eE;rw[if_neg]
  .rfl
  .show ¬ (aW (some (-d)) (some u))=true;simp[aW];lia
 rw[e] at hy;have r:YT n ((-d,u):P2)=(Yn n).map λ_=>(-d,u):=by
  refine aap λk=>?_;rw[ZW,Yf];by_cases hk:k<n
  .rw[if_pos hk,YN hk];rfl
  .rw[if_neg hk,Y9 (by rw[Yb];lia)];rfl
 rw[r];exact aw.ya ((aw.bind hy).imp λ_ _ z=>z)
inductive Wg(K:XW)(B:Ye)(vs:List V)(H:Hp)(Q:VK)(aL:XK):Prop
 | mk(x p:Ye)(e t u d m:Int)(tb:Tb)(_:vs=[.ref x])(_:di B H x e t u d m p tb)(_:(1<=e/\e<=7))(_:(1<=t/\t<=12))(_:0<=u)(_:0<=d)(_:bX e t tb)(_:tb.length<64)(_:∀ l zs H',aj H H'->H' l=some (.lst zs)->aw (λv ss=>kh H' v (some ss)) zs (((cI e.toNat).filter λs=>decide ((s.length:Int)=m)).filterMap λs=>fM (YT (t-1).toNat (-d,u)) (cn tb s))->Q (.ref l) H')
theorem Wh(T:Tx K mg):Ok P w base 5 T.sH (Wg K T.aN):=by
 refine bb rK ?_;rintro _ _ _ s H _ Q _ hr ⟨x,p,e,t,u,d,m,tb,rfl,hb,he,ht,hu,hd,az,dw,q⟩;refine⟨_,(au (aE 1 rK.nd (aF (HS T) hr (ae (aa 0) (ae (ck ag) ag))))
  (au (k8 (i:=2) (bz.mk (fr:=[0]) (ys:=["board"]) rfl (by decide +kernel) rfl (by decide +kernel) rfl rfl (.cons rfl .nil) (.cons rfl rfl rfl rfl .nil) (by decide) rfl) rfl rK.nd rfl rfl (cu (aF (Wd T) hr (ae (bS rfl (aa 0) rfl) ag))) (λC s2 H2 ex pn=>⟨(gd (bZ (aY (MR (K:=K) rfl) (by rfl) T.cT cR (ae (aa 0) ag)) (bS (K:=K) rfl (aa 1) rfl))),(aa 0)⟩))
  (au (k8 (i:=3) (bz.mk (fr:=[1,0]) (ys:=["steps","board"]) rfl (by decide +kernel) rfl (by decide +kernel) rfl rfl (.cons rfl (.cons rfl .nil)) (.cons rfl rfl rfl rfl (.cons rfl rfl rfl rfl .nil)) (by decide) rfl) rfl rK.nd rfl rfl (cu (aa 2)) (λC s2 H2 ex pn=>⟨cD,(aF (Ih T) hr (ae (aa 1) (ae (aF (Ia T) hr (ae (aa 2) (ae (aa 0) ag))) ag)))⟩))
  (ay (aA (cE (bz.mk (fr:=[]) (ys:=[]) rfl (by decide +kernel) rfl (by decide +kernel) rfl rfl .nil .nil (by decide) rfl) rfl (cu (aa 3)) (λC s2 H2 ex pn=>⟨(gd (fg (aa 0))),(aa 0)⟩))))))),?_⟩
 obtain⟨⟨dx,hx⟩,kvs,hk,hT⟩:=id hb;rfl';refine⟨YB _,λr b5=>?_⟩;have u1:=ao (o:=.lst []) b5;refine⟨x,p,r,e,t,u,d,m,kvs,[],[],rfl,⟨⟨dx,u1 _ _ hx⟩,u1 _ _ hk⟩,ht.1,ht.2,ai.of ar,trivial,by decide,λz=>absurd (λ_ h=>(nomatch h)) z,λ_ st ys H1 s1 _ bV hy=>?_⟩;have S1:=u1.trans s1;have Jv:=Wf (by lia) hy;have rl:(YT (t-1).toNat ((-d,u):P2)).length<=11:=by rw[aaf];lia
 have Jw:cZ (YT (t-1).toNat ((-d,u):P2)):=λq hq=>by rw[(aea.mp hq).2];show -d<=u;lia
 generalize YT (t-1).toNat ((-d,u):P2)=ps at Jv rl Jw q;refine⟨_,_,_,S1 _ _ hx,T.bO,T.pf,_,rfl,?_⟩;refine⟨e.toNat,by rw[ZL (by lia)],by lia,λa Wi H2 s2 ha hc=>?_⟩;have S2:=S1.trans s2;have al:=hc.len;rw[qQ] at al;have p2:2 ^ e.toNat<=2 ^ 7:=abJ (by decide) (by lia);refine⟨a,rfl,⟨_,ai.of ha⟩,bR eo (X5 (by lia:Wi.length<=128) (by decide)) (qP (R:=kg) (p:=λs=>decide ((s.length:Int)=m)) (λ_ _ _ _ s h=>h.same s) hc (λH' s'=>ai.of (s' _ _ ha)) (λv s _ H3 s3 r Q h=>?_) (λv H3 s3 Q h=>?_) λH3 cs s3 hz=>?_)⟩
 .obtain⟨l,rfl,hl⟩:=r;rfl';refine⟨_,dR (ai.of hl),_,_,_,(S2.trans s3) _ _ hx,T.bO,T.ph,_,rfl,?_⟩;rw[XY];rfl';exact vy (Q:=λk=>Q k H3) (h _ (aj.refl _))
 .rfl';exact h
 rw[Yj];intro c Wj;have u3:=ao (o:=.lst cs) Wj;have S3:=S2.trans (s3.trans u3);have zl:=hz.len;have fl:=YH (λs:List Int=>decide ((s.length:Int)=m)) (cI e.toNat);rw[qQ] at fl;have cP:=hz.imp λ_ _ r=>r.same u3;have c3:upd H3 c (.lst cs) c=some (.lst cs):=ar;generalize upd H3 c (.lst cs)=H4 at u3 S3 cP c3 ⊢;refine⟨c,rfl,⟨_,ai.of c3⟩,bR eo (X5 (by lia:cs.length<=128) (by decide)) (eB (R:=kg) (R':=kh) (f:=λs=>fM ps (cn tb s)) (λ_ _ _ _ s h=>h.same s) (λ_ _ _ _ s h=>h.same s) cP (bs:=[]) trivial (λH' s'=>ai.of (s' _ _ c3)) (λv s _ H5 s5 r Q h=>?_) (λv s hs H5 s5 r Q h=>?_) λH5 fs s5 hf=>?_)⟩
 .rfl';exact h
 .obtain⟨l,rfl,hl⟩:=r;have sl:=qR _ _ (Yy.mp hs).1;have S5:=S3.trans s5;rfl';refine⟨x,p,l,e,t,u,d,m,tb,s,rfl,hb.same S5,az.1,dw,λr hr=>(az.2 r hr).2.1,ai.of hl,by lia,λl2 XM H6 s6 aU hM=>?_⟩;refine We (ai.of ((s2.trans (s3.trans u3)).trans (s5.trans s6) _ _ bV)) (Jv.same ((s2.trans (s3.trans u3)).trans (s5.trans s6))) (ai.of aU) hM Jw (by lia) ?_ λf H7 s7 hf=>h H7 f (s6.trans s7) hf;rw[XY];exact X5 (YH _ _) (by rw[mO];lia)
 rw[Yj] at hf;intro g hg;have ug:=ao (o:=.lst fs) hg;have g6:upd H5 g (.lst fs) g=some (.lst fs):=ar;have Jx:=hf.imp λ_ _ r=>r.same ug;have S6:=S3.trans (s5.trans ug);have Wk:=hf.len;rw[XY] at Wk;generalize upd H5 g (.lst fs)=H6 at S6 g6 Jx ⊢;refine⟨g,rfl,⟨_,ai.of g6⟩,bR eo (X5 (by lia:fs.length<=128) (by decide)) (qP (R:=kh) (p:=λo=>o.isSome) (λ_ _ _ _ s h=>h.same s) Jx (λH' s'=>ai.of (s' _ _ g6)) (λv o _ H7 s7 r Q h=>?_) (λv H7 s7 Q h=>?_) λH7 ws s7 hw=>?_)⟩
 .cases o with
  | none =>
   obtain rfl:v = .non:=r;rfl';exact h _ (aj.refl _)
  | some ss =>
   obtain⟨l,zs,rfl,_⟩:=r;rfl';exact h _ (aj.refl _)
 .rfl';exact h
 rw[Yj];intro l hl;have ul:=ao (o:=.lst ws) hl;refine q l ws _ (S6.trans (s7.trans ul)) ar ?_;rw[<- map_some];exact yq (hw.imp λ_ _ r=>r.same ul)
theorem Jy(h:j5 H v as)(s:aj H H'):j5 H' v as:=⟨h.1,λz=>let ⟨lo,hi,a,b⟩:=h.2 z;⟨lo,hi,a.same s,b⟩⟩
inductive Wl(K:XW)(B:Ye)(vs:List V)(H:Hp)(Q:VK)(aL:XK):Prop
 | mk(x p:Ye)(e t u d m:Int)(tb:Tb)(_:vs=[.ref x])(_:di B H x e t u d m p tb)(_:(1<=e/\e<=7))(_:(1<=t/\t<=12))(_:0<=u)(_:0<=d)(_:bX e t tb)(_:tb.length<64)(_:∀ l ys H',aj H H'->H l=none->H' l=some (.lst ys)->aw (λv (k:Nat)=>j5 H' v ((ly e t u d m tb).map λss=>ba ss k)) ys (Yn t.toNat)->Q (.ref l) H')
theorem Wm(T:Tx K mg):Ok P w base 6 T.lS (Wl K T.aN):=by
 refine gV AI ?_;rintro _ _ _ s H _ Q _ hr ⟨x,p,e,t,u,d,m,tb,rfl,hb,he,ht,hu,hd,az,dw,q⟩;refine⟨_,(au (aE 1 AI.nd (aF (Wh T) hr (ae (aa 0) ag)))
  (ay (aA (Ff (mV.mk (fr:=[1]) (ys:=["found"]) rfl (λ_ _=>rfl) (λ_=>rfl) rfl (by decide +kernel) rfl rfl (.cons rfl .nil) (.cons rfl rfl rfl rfl .nil) (by decide) rfl) rfl (fE rfl T.dg (ae (bS rfl (aa 0) rfl) ag)) (λC s2 H2 ex pn=>⟨cD,(aF (Sw T) hr (ae (cE (bz.mk (fr:=[0]) (ys:=["turn"]) rfl (by decide +kernel) rfl (by decide +kernel) rfl rfl (.cons rfl .nil) (.cons rfl rfl rfl rfl .nil) (by decide) rfl) rfl (Fd (K:=K) rfl (aa 1)) (λC s2 H2 ex pn=>⟨cD,(b0 (K:=K) (aa 0) (aa 1))⟩)) ag))⟩))))),?_⟩
 obtain⟨⟨dx,hx⟩,kvs,hk,hT⟩:=id hb;rfl';refine⟨x,p,e,t,u,d,m,tb,rfl,hb,he,ht,hu,hd,az,dw,λl zs H1 s1 hl hz=>?_⟩;have hz:aw (λv ss=>kh H1 v (some ss)) zs (ly e t u d m tb):=hz;have zl:=hz.len;have tl:=Pf (t:=t) (u:=u) (d:=d) (m:=m) (tb:=tb) he.1 he.2;rfl';refine⟨_,_,_,s1 _ _ hx,T.bO,T.kI,_,rfl,?_⟩;refine⟨t,rfl,by lia,by lia,bR gK (by rw[XY,Yb];exact X5 (by lia:_<=12) (by decide)) (eB (R:=λ_ x (k:Nat)=>x=V.int ((0:Int)+k)) (R':=λH v (k:Nat)=>j5 H v ((ly e t u d m tb).map λss=>ba ss k)) (f:=λ(k:Nat)=>k) (λ_ _ _ _ _ h=>h) (λ_ _ _ _ s' h=>Jy h s') (aw.fj _) (bs:=[]) trivial (λ_ _=>trivial) (λx k _ H2 s2 r Q h=>?_) (λx k Wn H2 s2 r Q h=>?_) λH2 iT s2 l5=>?_)⟩
 .rfl';exact h
 .subst r;have XN:=YF.mp Wn;rfl';rw[aaN];refine⟨⟨_,ai.of (s2 _ _ hl)⟩,bR eo (X5 (by lia:zs.length<=64) (by decide)) (eB (R:=λ_ v (ss:List S2)=>kh H1 v (some ss)) (R':=lx) (f:=λss=>ba ss k) (λ_ _ _ _ _ h=>h) (λ_ _ _ _ s h=>aI.same h s) hz (bs:=[]) trivial (λH' s'=>ai.of ((s2.trans s') _ _ hl)) (λv s _ H5 s5 r Q h=>?_) (λv ss hs H5 s5 r Q h=>?_) λH5 fs s5 hf=>?_)⟩
  .rfl';exact h
  .obtain⟨l2,iT,rfl,aU,l5⟩:=r;have rl:=Ph ht.1 hs;have es:ss[k]?=some (ba ss k):=by unfold ba;rw[XZ,X0 (by lia)];rfl
   obtain⟨w,hw,rw_⟩:=l5.at es;rfl';exact bH (ai.of ((s2.trans s5) _ _ aU)) (cY hw) (h _ _ (aj.refl _) (aI.same rw_ (s2.trans s5)))
  rw[Yj] at hf;intro g hg;have ug:=ao (o:=.lst fs) hg;have fl:=hf.len;rw[XY] at fl;exact⟨g,fs,_,rfl,ai.of ar,X5 (by lia:fs.length<=64) (by decide),aw.E1 (hf.imp λ_ _ r=>aI.same r ug),λv H6 s6 hh=>h _ _ (s5.trans (ug.trans s6)) hh⟩
 .intro l2 aU;rw[Yj,aeF] at l5;exact q l2 iT _ (s1.trans (s2.trans (ao aU))) ((s1.trans s2).free aU) ar (l5.imp λ_ _ r=>Jy r (ao aU))
theorem Wo{u d t m:Int}{tb:Tb}{cs zs:List Int}(bh:cs.length=t.toNat)(bV:nA u d cs)(BD:(zs.length:Int)<=m)(hz:∀ i,i∈zs↔A5 tb cs i):gu (cb u d [] (t-1).toNat) (cO [] t.toNat) tb m zs (bM cs):=by
 refine⟨BD,λj w hw=>?_,λj w hw=>?_,λr hr hn=>?_⟩
 .have hj:j<(t-1).toNat:=by have:=(X6.mp hw).1;rw[Bu] at this;exact this
  unfold cb at hw;rw[Yf,YN hj] at hw;cases hw;refine qL.mpr λs hs=>?_;rcases Yi.mp hs with rfl|hs
  .have:=bV j (by lia);exact⟨λa ha=>by cases ha;exact this.1,λa ha=>by cases ha;exact this.2⟩
  .simp[sel] at hs
 .have hj:j<t.toNat:=by have:=(X6.mp hw).1;rw[pJ] at this;exact this
  unfold cO at hw;rw[Yf,YN hj] at hw;cases hw;refine qL.mpr λs hs=>?_;simp[sel] at hs
 .refine ox.mp (Classical.byContradiction λz=>hn ((hz _).mpr ⟨r,hr,rfl,aaO.mpr z⟩))
theorem Wq(h:o∈m5 s)(h1:bp o x)(h2:bp s x):False:=by
 obtain⟨lo,hi⟩:=s;unfold m5 at h;cases lo<;>cases hi<;>simp at h
 .subst h;have a:=h1.1 _ rfl;have b:=h2.2 _ rfl;lia
 .subst h;have a:=h1.2 _ rfl;have b:=h2.1 _ rfl;lia
 .rcases h with rfl|rfl
  .have a:=h1.2 _ rfl;have b:=h2.1 _ rfl;lia
  .have a:=h1.1 _ rfl;have b:=h2.2 _ rfl;lia
theorem Wr{u d t m:Int}{tb:Tb}{k:Nat}{s:S2}(hk:(k:Int)<t)(hh:gA u d t m tb [])(bI:∀ ps L c,gu (cb u d ps (t-1).toNat) (cO ps t.toNat) tb m L c->bp s (c k)):kM u d t m tb (gk (c6 (k:Int) (k:Int) s)):=by
 refine⟨hh,λqs hq zq=>?_⟩;obtain⟨L,c,F⟩:=zq;unfold gk at hq;obtain⟨p,hp,hq⟩:=abI.mp hq;obtain⟨o,ho,rfl⟩:=Yc.mp hq;have pe:p=(("at",(k:Int),s):Pa):=by unfold c6 at hp;obtain⟨n,hn,rfl⟩:=Yc.mp hp;have:=YF.mp hn;rw[show (k:Int)+(n:Int)=(k:Int) by lia]
 subst pe;exact Wq ho (BB F (k:=k) (s:=o) hk (.head _)) (bI _ _ _ F)
def Jz(H:Hp)(a r c wr x to:Ye)(_:Nat)(σ:St)(H1:Hp):Prop:=(∃ e1,σ=[some (.ref a),some (.ref r),some (.ref c),some (.ref wr),some (.ref x),some (.ref to),e1,none,none,none,none])/\aj H H1
inductive wy(K:XW)(vs:List V)(H:Hp)(Q:VK)(aL:XK):Prop
 | mk(a:Ye)(ns:List Int)(_:vs=[.ref a])(_:ai K H a (ns.map V.int))(_:gN ns)(_:∀ H',Q (.bl true) H')
theorem Ws(T:Tx K mg):Ok P w base 37 T.ny (wy K):=by
 refine gV fQ ?_;rintro _ _ _ s H _ _ _ hr ⟨a,ns,rfl,hS,hn,q⟩;refine⟨_,(au (aE 1 fQ.nd (aF (Wa T) hr (ae (aa 0) (ae af ag))))
  (au (aE 2 fQ.nd (aF (SU T) hr (ae (aa 0) (ae (aa 1) (ae (aF (SM T) hr (ae (aa 0) ag)) ag)))))
  (au (aE 3 fQ.nd (aF (S0 T) hr (ae (aa 0) (ae (aa 1) (ae (aa 2) ag)))))
  (au (aE 3 fQ.nd (aT (ae (ax (aa 3) af) (ae (ax (aa 3) af) (ae (ax (aa 3) af) (ae (ax (aa 3) af) (ae (aY (Cn rfl) (by rfl) T.vM ur (ae (ax (aa 1) af) (ae (aF (TR T) hr (ae (aa 3) (ae (aa 2) ag))) ag))) (ae (ax (aa 3) af) ag))))))))
  (au (aE 4 fQ.nd (aF (TF T) hr (ae (aa 3) ag)))
  (au (aE 5 fQ.nd (bQ (Wm T) (hr.mono (by decide)) rfl T.lS.m T.lS.F.kp T.lS.b .nil dn (ae (aa 4) ag)))
  (au (aK (PW.pt (cf (cB (cz (aY kX (by rfl) T.lW kW (ae (aa 5) (ae (kR (v:=.ty "list") rfl T.AN xf rfl) ag))))) (dO (kz (aY cX (by rfl) T.cT cR (ae (aa 5) ag)) (ax (aa 3) af))))) (ay (aA eY)) aJ)
  (au (cW abu rfl (fE rfl T.dg (ae (ax (aa 3) af) ag)) (cp 6 fQ.nd) (au (aK (PW.pt (cf (cB (cz (aF (V8 T) hr (ae (ax (aa 5) (aa 6)) ag)))) (dO (cB (cz (aF (HH T) hr (ae (ax (aa 5) (aa 6)) (ae (ax (aa 2) (aa 6)) ag)))))))) (ay (aA eY)) aJ)
    (ay (aK (cB (cz (bQ (Jo T) (hr.mono (by decide)) rfl T.iP.m T.iP.F.kp T.iP.b .nil dn (ae (aa 3) (ae (aa 4) (ae (uj T.AR (Vq T) (hr.mono (by decide)) rfl T.Sa T.nu.b .nil dn (ae (aa 6) (ae (aa 6) (ae (ax (aa 5) (aa 6)) ag)))) ag)))))) (ay (aA eY)) aJ))))
  (au (aE 7 fQ.nd (aF (cJ T) hr (ae (aa 0) (ae af (ae af (ae (ax (aa 1) af) ag))))))
  (au (aE 8 fQ.nd (aF (cJ T) hr (ae (aa 0) (ae af (ae af (ae (ax (aa 1) af) ag))))))
  (au (aE 9 fQ.nd (aY (nU rfl) (by rfl) T.kH jV (ae (aa 7) (ae (aa 8) ag))))
  (au (aE 10 fQ.nd (aY (Cn rfl) (by rfl) T.vM ur (ae (aa 7) (ae (aa 8) ag))))
  (ay (aA (bQ (V4 T) (hr.mono (by decide)) rfl T.lV.m T.lV.F.kp T.lV.b .nil dn (ae (aa 0) (ae (aa 3) (ae (aa 4) (ae (aa 9) (ae (aa 10) (ae (ax (aa 5) (aa 9)) (ae (ax (aa 5) (aa 10)) ag)))))))))))))))))))))),?_⟩
 refine aD (λσ H1=>∃ (r:Ye) (e t u d m f:Int),σ=[some (.ref a),some (.ref r),none,none,none,none,none,none,none,none,none]/\aj H H1/\H1 r=some (.tup (pw e t u d m f))/\nz e t u d m f) (λN hN=>?_) ?_
 .rfl';exact⟨a,ns,3,rfl,hS,hn,by decide,by decide,λr e t u d m f H1 s1 cc sh=>hN _ _ ⟨r,e,t,u,d,m,f,rfl,s1,cc,sh⟩⟩
 rintro _ yR σ H1 ⟨r,e,t,u,d,m,f,rfl,s1,cc,sh⟩;subst yR;refine aD (λσ H2=>∃ (c:Ye) (cs:List Int),σ=[some (.ref a),some (.ref r),some (.ref c),none,none,none,none,none,none,none,none]/\aj H1 H2/\H2 c=some (.lst (cs.map V.int))/\cs.length=t.toNat/\nA (f * u) (f * d) cs) (λN hN=>?_) ?_
 .rfl';refine⟨a,ns,rfl,s1.seq hS,hn,λn H2 s2=>?_⟩;exact⟨a,r,ns,e,t,u,d,m,f,n,rfl,(s1.trans s2).seq hS,hn,ah.of (s2 _ _ cc),sh,λc cs H3 s3 _ hc bh bV=>hN _ _ ⟨c,cs,rfl,s2.trans s3,hc,bh,bV⟩⟩
 rintro _ yR σ H2 ⟨c,cs,rfl,s2,n6,bh,bV⟩;subst yR;have S2:=s1.trans s2;refine aD (λσ H3=>∃ (wr w:Ye) (tb:Tb),σ=[some (.ref a),some (.ref r),some (.ref c),some (.ref wr),none,none,none,none,none,none,none]/\aj H2 H3/\H3 wr=some (.tup [.int e,.int t,.int (f * u),.int (f * d),.int m,.ref w])/\TabAt H3 w tb/\bX e t tb/\∀ r∈tb,aW r.2.1 r.2.2=false) (λN hN=>?_) ?_
 .rfl';refine⟨a,r,c,ns,cs,e,t,u,d,m,f,rfl,S2.seq hS,hn,ah.of (s2 _ _ cc),sh,ai.of n6,bh,λv w tb H3 s3 _ hW az _ dD=>?_⟩;obtain⟨wr,rfl,h1,h2⟩:=hW;exact hN _ _ ⟨wr,w,tb,rfl,s3,h1,h2,az,dD⟩
 rintro _ yR σ H3 ⟨JA,w,tb,rfl,s3,l8,hT,bG,dD⟩;subst yR;have S3:=S2.trans s3;have et:=HL sh;have BE:dC e t (f * u) (f * d) m:=⟨sh.he,sh.ht,aaz (by have:=sh.hf;lia) sh.hu.1,aaz (by have:=sh.hf;lia) sh.hd.1,sh.hm.1,sh.hm.2⟩
 generalize f * u=U at BE l8 bV;generalize f * d=D at BE l8 bV;obtain⟨he,ht,u0,d0,m0,me⟩:=id BE;have iS:=R1 bG (by lia) (by lia);have tE:=s3 _ _ n6;have fA:=(s2.trans s3) _ _ cc;refine aD (λσ H4=>∃ (wr:Ye) (mo:Int) (zs:List Int),σ=[some (.ref a),some (.ref r),some (.ref c),some (.ref wr),none,none,none,none,none,none,none]/\aj H3 H4/\H4 wr=some (.tup [.int e,.int t,.int U,.int D,.int mo,.ref w])/\m<=mo/\mo<=e/\(zs.length:Int)<=mo/\∀ i,i∈zs↔A5 tb cs i) (λN hN=>?_) ?_
 .rfl';refine ak (ah.of l8) rfl (ak (ah.of l8) rfl (ak (ah.of l8) rfl (ak (ah.of l8) rfl (ak (ah.of fA) rfl ?_))));refine⟨.ref JA,w,c,e,t,U,D,m,tb,cs,rfl,⟨JA,rfl,l8,hT⟩,bG,by lia,ai.of tE,bh,λzs H4 s4 eT hz=>⟨m,rfl,_,rfl,ak (ah.of (s4 _ _ l8)) (v:=.ref w) rfl ⟨by decide,λp hp=>?_⟩⟩⟩;have ze:zs.length<=((Yn e.toNat).map λ(i:Nat)=>(i:Int)).length:=rq eT λi hi=>by obtain⟨r,hr,e1,_⟩:=(hz i).mp hi;obtain⟨⟨b1,b2⟩,_⟩:=bG.2 r hr;exact Yc.mpr ⟨i.toNat,YF.mpr (by lia),by lia⟩
  rw[XY,Yb] at ze;have mx:m<=(if ((zs.length:Nat):Int) > m then ((zs.length:Nat):Int) else m)/\((zs.length:Nat):Int)<=(if ((zs.length:Nat):Int) > m then ((zs.length:Nat):Int) else m)/\(if ((zs.length:Nat):Int) > m then ((zs.length:Nat):Int) else m)<=e:=by split<;>lia
  exact hN _ _ ⟨p,_,zs,rfl,s4.trans (ao hp),ar,mx.1,mx.2.2,mx.2.1,hz⟩
 rintro _ yR σ H4 ⟨wr,mo,zs,rfl,s4,hwr,XO,JB,BD,hz⟩;subst yR;have S4:=S3.trans s4;have c7:dC e t U D mo:=⟨he,ht,u0,d0,by lia,JB⟩
 have F0:=Wo bh bV BD hz;have hh:gA U D t mo tb []:=⟨_,_,F0⟩
 have tJ:=hT.same s4;refine aD (λσ H5=>∃ (x p:Ye),σ=[some (.ref a),some (.ref r),some (.ref c),some (.ref wr),some (.ref x),none,none,none,none,none,none]/\aj H4 H5/\di T.aN H5 x e t U D mo p tb) (λN hN=>?_) ?_
 .rfl';exact⟨.ref wr,w,e,t,U,D,mo,tb,rfl,⟨wr,rfl,hwr,tJ⟩,c7,bG,by lia,dD,λx p H5 s5 _ _ hB=>hN _ _ ⟨x,p,rfl,s5,hB⟩⟩
 rintro _ yR σ H5 ⟨x,p,rfl,s5,JC⟩;subst yR;refine aD (λσ H6=>∃ (to:Ye) (ys:List V) (ws:List W2),σ=[some (.ref a),some (.ref r),some (.ref c),some (.ref wr),some (.ref x),some (.ref to),none,none,none,none,none]/\aj H5 H6/\H6 to=some (.lst ys)/\aw (dW H6) ys ws/\GD e t U D mo tb ws) (λN hN=>?_) ?_
 .rfl';refine⟨x,p,e,t,U,D,mo,tb,rfl,JC,he,ht,u0,d0,bG,by lia,λl ys H6 s6 _ hl hy=>?_⟩;obtain⟨ws,h1,h2⟩:=R4 hy;exact hN _ _ ⟨l,ys,ws,rfl,s6,hl,h1,h2⟩
 rintro _ yR σ H6 ⟨to,ys,ws,rfl,s6,hto,hY,JD⟩;subst yR;have S6:=S4.trans (s5.trans s6);have tR:=s5.trans s6;have JE:hU H6 (.ref wr) w e t U D mo tb:=⟨wr,rfl,tR _ _ hwr,tJ.same tR⟩
 have JF:=tR _ _ hwr;have JG:=JC.same s6;have Wt:=(s4.trans tR) _ _ tE;have yl:=hY.len;have wl:=JD.1;have JH:∀ (k:Nat) (w:W2),ws[k]?=some w->∀ ps L c,gu (cb U D ps (t-1).toNat) (cO ps t.toNat) tb mo L c->bL w (c k):=λk w hw ps L c F=>by
  have hk:(k:Int)<t:=by have:=(X6.mp hw).1;lia
  exact R5 u0 d0 bG ht.1 hk (V1 he.1 JB bG F k) (JD.2 k w hw)
 have BF:∀ k:Nat,(k:Int)<t->∃ q lo hi,ys[k]?=some (.ref q)/\H6 q=some (.tup [ev lo,ev hi])/\ws[k]?=some (some (lo,hi))/\∀ ps L c,gu (cb U D ps (t-1).toNat) (cO ps t.toNat) tb mo L c->bp (lo,hi) (c k):=λk hk=>by have hv:=X0 (l:=ys) (i:=k) (by lia);obtain⟨w,hw,iw⟩:=hY.get hv;have I0:=JH k w hw _ _ _ F0;obtain⟨⟨lo,hi⟩,rfl,_⟩:=I0;obtain⟨q,e,hq⟩:=iw;refine⟨q,lo,hi,by rw[hv,e],hq,hw,λps L c F=>?_⟩;obtain⟨s,e,hs⟩:=JH k _ hw ps L c F;cases e;exact hs
 refine aD (λσ H7=>σ=[some (.ref a),some (.ref r),some (.ref c),some (.ref wr),some (.ref x),some (.ref to),none,none,none,none,none]/\H7=H6) (λN hN=>?_) ?_
 .rfl';refine C8 hto ?_;rfl';refine⟨_,dR (ai.of hto),ak (ah.of JF) rfl ?_⟩;rfl';rw[if_neg (by lia)];exact hN _ _ ⟨rfl,rfl⟩
 rintro _ yR σ H7 ⟨rfl,rfl⟩;subst yR;refine aD (λσ H8=>Jz H7 a r c wr x to 0 σ H8) (λN hN=>?_) ?_
 .rfl';refine ak (ah.of JF) rfl ⟨t,rfl,by lia,by lia,kY (Jz H7 a r c wr x to) ⟨⟨_,rfl⟩,aj.refl _⟩ ?_ λσ H8 h=>hN _ _ h⟩;rintro k σ H8 hk ⟨⟨z1,rfl⟩,s8⟩;obtain⟨qa,lo,hi,hy,hqa,hw,bI⟩:=BF k (by lia);have BG:cQ ys (0+(k:Int))=some (.ref qa):=by rw[aaN];exact cY hy
  have BH:=s8 _ _ hto;have BI:=s8 _ _ hqa;have Wu:hold lo hi (cs.getD (0+(k:Int)).toNat 0)=true:=by rw[show (0+(k:Int)).toNat=k by lia];exact ox.mpr (bI _ _ _ F0)
  rfl';refine bH (ai.of BH) BG ⟨qa,lo,hi,rfl,BI,?_⟩;rfl';refine bH (ai.of BH) BG (bH (ai.of (s8 _ _ Wt)) (int_at (by lia) (by lia)) ⟨qa,lo,hi,_,rfl,ah.of BI,?_⟩);rw[Wu];rfl';refine bH (ai.of BH) BG λy dy hy pK ne=>?_;rw[aaN];refine⟨y,dy,k,k,.ref qa,rfl,ar,λz=>absurd ⟨by lia,by lia,by lia⟩ z,λjE=>⟨rfl,?_⟩⟩;rw[ic];have s2:aj H8 (upd (upd H8 dy (.own y)) y (.ins T.bN dy [("first",.int k),("last",.int k),("stretch",.ref qa)])):=(ao pK).trans (ao (by rw[aG (Y1 ne)];exact hy));refine⟨x,p,w,y,.ref wr,e,t,U,D,mo,.cK k k (lo,hi),tb,rfl,(JG.same s8).same s2,(JE.same s8).same s2,c7,bG,by lia,⟨dy,qa,ar,s2 _ _ BI⟩,jE,by show (k:Int)<t;lia,Wr (by lia) hh bI,λH9 s9=>?_⟩;rfl';exact⟨⟨_,rfl⟩,s8.trans (s2.trans s9)⟩
 rintro _ yR σ H8 ⟨⟨z1,rfl⟩,s8⟩;subst yR;have JI:=(s4.trans (tR.trans s8)) _ _ fA;have BJ:=(S6.trans s8).seq hS;rfl';refine ak (ah.of JI) rfl ⟨a,ns,_,_,_,rfl,BJ,hn,⟨by decide,by decide⟩,by decide,by lia,λk1 XQ XR=>?_⟩;refine ak (ah.of JI) rfl ⟨a,ns,_,_,_,rfl,BJ,hn,⟨by decide,by decide⟩,by decide,by lia,λk2 XS XT=>⟨k1,rfl,k2,rfl,k1,rfl,k2,rfl,?_⟩⟩;have ea:0<=(if k2<k1 then k2 else k1)/\(if k2<k1 then k2 else k1)<=(if k2 > k1 then k2 else k1)/\(if k2 > k1 then k2 else k1)<t:=by constructor<;>(try constructor)<;>(repeat' split)<;>lia
 generalize (if k2<k1 then k2 else k1)=ka at ea ⊢;generalize (if k2 > k1 then k2 else k1)=kb at ea ⊢;obtain⟨i,rfl⟩:=acO ea.1;obtain⟨j,rfl⟩:=acO (show 0<=kb by lia);obtain⟨q1,l1,h1,vd,tL,XU,Wv⟩:=BF i (by lia);obtain⟨q2,l2,h2,pB,tM,v5,Ww⟩:=BF j (by lia);refine bH (ai.of (s8 _ _ hto)) (cY vd) (bH (ai.of (s8 _ _ hto)) (cY pB) ?_);exact⟨a,x,p,w,q1,q2,.ref wr,ns,e,t,U,D,mo,tb,i,j,(l1,h1),(l2,h2),rfl,BJ,hn,JG.same s8,JE.same s8,c7,bG,by lia,by lia,by lia,s8 _ _ tL,s8 _ _ tM,hh,λps L c F=>⟨(Wv ps L c F).2,(Ww ps L c F).1⟩,λH9 _=>q _⟩
end
theorem Wx{l:adl}{w:Zw}{K:XW}{h:aax}{mg:Str->Option X7}{fa:Ye}(X:K.In h)(G:h.Ns Yw mg)(Wy:mg "law" = some (.ref fa))
 {vO:Ye}
 {lX:Ye}
 {lY:Ye}
 {iQ:Ye}
 {iR:Ye}
 {vP:Ye}
 {dh:Ye}
 {bN:Ye}
 {bF:Ye}
 {aN:Ye}
 {Wz:Tok}
 {WA:Tok}
 {WB:Tok}
 (WC:YE K Yw "GazeError" = some (some (.ref vO)))
 (WD:YE K Yw "NoBoard" = some (some (.ref lX)))
 (WE:YE K Yw "NoTelling" = some (some (.ref lY)))
 (WG:YE K Yw "NoClaim" = some (some (.ref iQ)))
 (WH:YE K Yw "NoEvent" = some (some (.ref iR)))
 (WI:YE K Yw "Event" = some (some (.ref vP)))
 (WJ:YE K Yw "Spanned" = some (some (.ref dh)))
 (WK:YE K Yw "Stayed" = some (some (.ref bN)))
 (WL:YE K Yw "Rose" = some (some (.ref bF)))
 (WM:YE K Yw "Board" = some (some (.ref aN)))
 (rO:Fb K "is_crossed" "is_crossed" zf (aM K "is_crossed"))
 (rP:Fb K "meet" "meet" zg (aM K "meet"))
 (rQ:Fb K "common" "common" zh (aM K "common"))
 (rR:Fb K "hull" "hull" zi (aM K "hull"))
 (rS:Fb K "has_part" "has_part" zj (aM K "has_part"))
 (iI:Fb K "check_claim" "check_claim" zk (aM K "check_claim"))
 (rT:Fb K "stretches_of" "stretches_of" zm (aM K "stretches_of"))
 (lK:Fb K "paces" "paces" zo (aM K "paces"))
 (lL:Fb K "wanted" "wanted" zp (aM K "wanted"))
 (rV:Fb K "outside" "outside" zr (aM K "outside"))
 (rW:Fb K "failures" "failures" zt (aM K "failures"))
 (rX:Fb K "parts_at" "parts_at" zu (aM K "parts_at"))
 (jB:Fb K "__init__" "Spanned.__init__" zv λf=>dB K dh "__init__" f/\ae9 K (.ref dh) (.type "type") "__init__" = some (.val (.ref f)))
 (gW:Fb K "far" "Spanned.far" zw λf=>dB K dh "far" f/\dB K bN "far" f/\dB K bF "far" f)
 (gv:Fb K "all_at" "Spanned.all_at" zx λf=>dB K dh "all_at" f/\dB K bN "all_at" f/\dB K bF "all_at" f)
 (nu:Fb K "__init__" "Stayed.__init__" zy (dB K bN "__init__"))
 (kD:Fb K "ways" "Stayed.ways" zz (dB K bN "ways"))
 (jC:Fb K "breaks" "Stayed.breaks" zA (dB K bN "breaks"))
 (lM:Fb K "__init__" "Rose.__init__" zB (dB K bF "__init__"))
 (kE:Fb K "ways" "Rose.ways" zC (dB K bF "ways"))
 (jD:Fb K "breaks" "Rose.breaks" zD (dB K bF "breaks"))
 (rY:Fb K "number_in" "number_in" zE (aM K "number_in"))
 (rZ:Fb K "moved" "moved" zF (aM K "moved"))
 (se:Fb K "narrowed" "narrowed" zG (aM K "narrowed"))
 (sf:Fb K "stretches_at" "stretches_at" zH (aM K "stretches_at"))
 (si:Fb K "tube" "tube" zI (aM K "tube"))
 (sk:Fb K "course_in" "course_in" zJ (aM K "course_in"))
 (so:Fb K "lesser" "lesser" zK (aM K "lesser"))
 (sq:Fb K "lifted" "lifted" zL (aM K "lifted"))
 (sr:Fb K "ceilings" "ceilings" zM (aM K "ceilings"))
 (sx:Fb K "crossing" "crossing" zN (aM K "crossing"))
 (sy:Fb K "marks_of" "marks_of" zO (aM K "marks_of"))
 (sA:Fb K "marks_without" "marks_without" zP (aM K "marks_without"))
 (sC:Fb K "groups_of" "groups_of" zQ (aM K "groups_of"))
 (sD:Fb K "clashes" "clashes" zR (aM K "clashes"))
 (sE:Fb K "choices" "choices" zS (aM K "choices"))
 (iJ:Fb K "without" "without" zT (aM K "without"))
 (lN:Fb K "eyes_of" "eyes_of" zU (aM K "eyes_of"))
 (iK:Fb K "put_aside" "put_aside" zV (aM K "put_aside"))
 (gX:Fb K "branch" "branch" zW (aM K "branch"))
 (gY:Fb K "paper" "paper" zX (aM K "paper"))
 (x_ask:Fb K "ask" "ask" zY (aM K "ask"))
 (iL:Fb K "seek" "seek" zZ (aM K "seek"))
 (iM:Fb K "verdict" "verdict" z5 (aM K "verdict"))
 (sF:Fb K "is_sure" "is_sure" z6 (aM K "is_sure"))
 (sG:Fb K "lies_within" "lies_within" z7 (aM K "lies_within"))
 (lO:Fb K "windows" "windows" z8 (aM K "windows"))
 (nv:Fb K "__init__" "Board.__init__" z9 (dB K aN "__init__"))
 (lP:Fb K "has_eye" "Board.has_eye" Aa (dB K aN "has_eye"))
 (gZ:Fb K "has_turn" "Board.has_turn" Ab (dB K aN "has_turn"))
 (lQ:Fb K "tell" "Board.tell" Ac (dB K aN "tell"))
 (kF:Fb K "tellings" "Board.tellings" Ad (dB K aN "tellings"))
 (lR:Fb K "check_spot" "Board.check_spot" Ae (dB K aN "check_spot"))
 (sH:Fb K "tubes" "tubes" Af (aM K "tubes"))
 (lS:Fb K "strips" "strips" Ag (aM K "strips"))
 (sI:Fb K "_law_draw" "_law_draw" Ah (aM K "_law_draw"))
 (sJ:Fb K "_law_base" "_law_base" Ai (aM K "_law_base"))
 (lT:Fb K "_law_whole" "_law_whole" Aj (aM K "_law_whole"))
 (sL:Fb K "_law_within" "_law_within" Ak (aM K "_law_within"))
 (sM:Fb K "_law_shape" "_law_shape" Al (aM K "_law_shape"))
 (sN:Fb K "_law_true_course" "_law_true_course" Am (aM K "_law_true_course"))
 (sO:Fb K "_law_word" "_law_word" An (aM K "_law_word"))
 (sP:Fb K "_law_world" "_law_world" Ao (aM K "_law_world"))
 (sQ:Fb K "_law_board" "_law_board" Ap (aM K "_law_board"))
 (sR:Fb K "_law_liars" "_law_liars" Aq (aM K "_law_liars"))
 (sS:Fb K "_law_common" "_law_common" Ar (aM K "_law_common"))
 (iN:Fb K "_law_empty" "_law_empty" As (aM K "_law_empty"))
 (lU:Fb K "_law_climb" "_law_climb" Au (aM K "_law_climb"))
 (iO:Fb K "_law_mark" "_law_mark" Av (aM K "_law_mark"))
 (g9:Fb K "_law_branch" "_law_branch" Aw (aM K "_law_branch"))
 (kG:Fb K "_law_clash" "_law_clash" Ax (aM K "_law_clash"))
 (gx:Fb K "_law_refuted" "_law_refuted" Ay (aM K "_law_refuted"))
 (sT:Fb K "_law_refutes" "_law_refutes" Az (aM K "_law_refutes"))
 (sU:Fb K "_law_steep" "_law_steep" AA (aM K "_law_steep"))
 (sV:Fb K "_law_span" "_law_span" AB (aM K "_law_span"))
 (iP:Fb K "_law_sure" "_law_sure" AD (aM K "_law_sure"))
 (lV:Fb K "_law_rises" "_law_rises" AE (aM K "_law_rises"))
 (ny:Fb K "law" "law" AF (aM K "law"))
 (WN:YE K Yw "all" = some none)
 (WO:YE K Yw "any" = some none)
 (WQ:YE K Yw "bool" = some none)
 (WR:YE K Yw "enumerate" = some none)
 (WS:YE K Yw "int" = some none)
 (WT:YE K Yw "isinstance" = some none)
 (WU:YE K Yw "len" = some none)
 (WV:YE K Yw "list" = some none)
 (WW:YE K Yw "max" = some none)
 (WX:YE K Yw "min" = some none)
 (WY:YE K Yw "range" = some none)
 (WZ:YE K Yw "reversed" = some none)
 (W0:YE K Yw "set" = some none)
 (W3:YE K Yw "sorted" = some none)
 (W4:YE K Yw "sum" = some none)
 (W5:YE K Yw "tuple" = some none)
 (W6:YE K Yw "zip" = some none)
 (Hu:b7 K dh)
 (Hv:YD K (.ref dh) "first" = some none)
 (Hw:YD K (.ref dh) "last" = some none)
 (Hx:aaG K dh=true) (W7:Zx K (.ref dh)=true)
 (fR:b7 K bN)
 (sW:YD K (.ref bN) "first" = some none)
 (o9:YD K (.ref bN) "last" = some none)
 (sX:YD K (.ref bN) "stretch" = some none)
 (AR:aaG K bN=true) (W8:Zx K (.ref bN)=true)
 (dN:b7 K bF)
 (pd:YD K (.ref bF) "first" = some none)
 (lZ:YD K (.ref bF) "last" = some none)
 (sY:YD K (.ref bF) "low" = some none)
 (sZ:YD K (.ref bF) "high" = some none)
 (vQ:aaG K bF=true) (W9:Zx K (.ref bF)=true)
 (bO:b7 K aN)
 (pf:YD K (.ref aN) "eyes" = some none)
 (kI:YD K (.ref aN) "turns" = some none)
 (vR:YD K (.ref aN) "up" = some none)
 (vS:YD K (.ref aN) "down" = some none)
 (ph:YD K (.ref aN) "most" = some none)
 (pq:YD K (.ref aN) "told" = some none)
 (AS:aaG K aN=true) (Xa:Zx K (.ref aN)=true)
 (Xb:acq K (.ref dh) "__getattribute__" = some (some (.builtin "type.__getattribute__"))) (Xc:ae8 K dh (.type "type")=true)
 (tj:XC K lX)
 (vT:XC K lY)
 (vU:XC K iQ)
 (tm:XC K iR)
 (Xd:YE K Yw "LAST_TURN" = some (some (.int 11 Wz)))
 (Xe:YE K Yw "EYES_AT_MOST" = some (some (.int 7 WA)))
 (Xf:YE K Yw "TURNS_AT_MOST" = some (some (.int 12 WB)))
 : ∃ fd:aa0,(∀ (s:Yd) (v:X7),ael s fd ⟨[v],[]⟩ [("_law_script",v)])/\∀ base:aax,K.In base->base.Ns Yw mg->dP l.prog w K mg base (dG l.prog w) 37 fa fd ["_law_script"] (wy K):=by
 obtain⟨rO⟩:=rO.fn X G GF;obtain⟨rP⟩:=rP.fn X G vD;obtain⟨rQ⟩:=rQ.fn X G rB;obtain⟨rR⟩:=rR.fn X G o5;obtain⟨rS⟩:=rS.fn X G GG;obtain⟨iI⟩:=iI.fn X G AG;obtain⟨rT⟩:=rT.fn X G GH;obtain⟨lK⟩:=lK.fn X G AH;obtain⟨lL⟩:=lL.fn X G GI;obtain⟨rV⟩:=rV.fn X G vE;obtain⟨rW⟩:=rW.fn X G vF;obtain⟨rX⟩:=rX.fn X G GJ;obtain⟨jB,JJ,Xg⟩:=Fb.fp jB GK;obtain⟨gW,JK,JL,JM⟩:=Fb.fp gW GL;obtain⟨gv,JN,JO,JP⟩:=Fb.fp gv GN;obtain⟨nu,JQ⟩:=nu.fm GO;obtain⟨kD,JR⟩:=kD.fm GP;obtain⟨jC,JS⟩:=jC.fm GQ;obtain⟨lM,JT⟩:=lM.fm GR;obtain⟨kE,JU⟩:=kE.fm rC;obtain⟨jD,JV⟩:=jD.fm GS;obtain⟨rY⟩:=rY.fn X G GU;obtain⟨rZ⟩:=rZ.fn X G vG;obtain⟨se⟩:=se.fn X G nh;obtain⟨sf⟩:=sf.fn X G GV;obtain⟨si⟩:=si.fn X G vH;obtain⟨sk⟩:=sk.fn X G o6;obtain⟨so⟩:=so.fn X G GW;obtain⟨sq⟩:=sq.fn X G GX;obtain⟨sr⟩:=sr.fn X G ni;obtain⟨sx⟩:=sx.fn X G rD;obtain⟨sy⟩:=sy.fn X G GY;obtain⟨sA⟩:=sA.fn X G GZ;obtain⟨sC⟩:=sC.fn X G G0;obtain⟨sD⟩:=sD.fn X G kC;obtain⟨sE⟩:=sE.fn X G rE;obtain⟨iJ⟩:=iJ.fn X G G1;obtain⟨lN⟩:=lN.fn X G G2;obtain⟨iK⟩:=iK.fn X G rF;obtain⟨gX⟩:=gX.fn X G G3;obtain⟨gY⟩:=gY.fn X G nj;obtain⟨x_ask⟩:=x_ask.fn X G nk;obtain⟨iL⟩:=iL.fn X G rG;obtain⟨iM⟩:=iM.fn X G rH;obtain⟨sF⟩:=sF.fn X G G4;obtain⟨sG⟩:=sG.fn X G G5;obtain⟨lO⟩:=lO.fn X G rJ;obtain⟨nv,JW⟩:=nv.fm G6;obtain⟨lP,JX⟩:=lP.fm G7;obtain⟨gZ,JY⟩:=gZ.fm G8;obtain⟨lQ,JZ⟩:=lQ.fm G9;obtain⟨kF,J0⟩:=kF.fm Hc;obtain⟨lR,J1⟩:=lR.fm Hd;obtain⟨sH⟩:=sH.fn X G rK;obtain⟨lS⟩:=lS.fn X G AI;obtain⟨sI⟩:=sI.fn X G He;obtain⟨sJ⟩:=sJ.fn X G AJ;obtain⟨lT⟩:=lT.fn X G Hf;obtain⟨sL⟩:=sL.fn X G Hg;obtain⟨sM⟩:=sM.fn X G fP;obtain⟨sN⟩:=sN.fn X G rL;obtain⟨sO⟩:=sO.fn X G nq;obtain⟨sP⟩:=sP.fn X G iH;obtain⟨sQ⟩:=sQ.fn X G vI;obtain⟨sR⟩:=sR.fn X G Hh;obtain⟨sS⟩:=sS.fn X G nr;obtain⟨iN⟩:=iN.fn X G Hi;obtain⟨lU⟩:=lU.fn X G AK;obtain⟨iO⟩:=iO.fn X G Hj;obtain⟨g9⟩:=g9.fn X G Hk;obtain⟨kG⟩:=kG.fn X G vJ;obtain⟨gx⟩:=gx.fn X G o7;obtain⟨sT⟩:=sT.fn X G rM;obtain⟨sU⟩:=sU.fn X G rN;obtain⟨sV⟩:=sV.fn X G AL;obtain⟨iP⟩:=iP.fn X G vK;obtain⟨lV⟩:=lV.fn X G o8;obtain⟨ny⟩:=ny.fn X G fQ;cases Wy.symm.trans ny.m;exact⟨_,ny.bt fQ,λ_ _ _=>Ws (⟨rO,rP,rQ,rR,rS,iI,rT,lK,lL,rV,rW,rX,jB,gW,gv,nu,kD,jC,lM,kE,jD,rY,rZ,se,sf,si,sk,so,sq,sr,sx,sy,sA,sC,sD,sE,iJ,lN,iK,gX,gY,x_ask,iL,iM,sF,sG,lO,nv,lP,gZ,lQ,kF,lR,sH,lS,sI,sJ,lT,sL,sM,sN,sO,sP,sQ,sR,sS,iN,lU,iO,g9,kG,gx,sT,sU,sV,iP,lV,ny,YI X G WN,YI X G WO,YI X G WQ,YI X G WR,YI X G WS,YI X G WT,YI X G WU,YI X G WV,YI X G WW,YI X G WX,YI X G WY,YI X G WZ,YI X G W0,YI X G W3,YI X G W4,YI X G W5,YI X G W6,vO,Zo X G WC,lX,Zo X G WD,lY,Zo X G WE,iQ,Zo X G WG,iR,Zo X G WH,vP,Zo X G WI,dh,Zo X G WJ,bN,Zo X G WK,bF,Zo X G WL,aN,Zo X G WM,Hu,Hv,Hw,⟨Hx,JJ.1,JJ.2,W7⟩,⟨JK.1,JK.2,gW.F.kp⟩,⟨JN.1,JN.2,gv.F.kp⟩,fR,sW,o9,sX,⟨AR,JQ.1,JQ.2,W8⟩,⟨JL.1,JL.2,gW.F.kp⟩,⟨JO.1,JO.2,gv.F.kp⟩,⟨JR.1,JR.2,kD.F.kp⟩,⟨JS.1,JS.2,jC.F.kp⟩,dN,pd,lZ,sY,sZ,⟨vQ,JT.1,JT.2,W9⟩,⟨JM.1,JM.2,gW.F.kp⟩,⟨JP.1,JP.2,gv.F.kp⟩,⟨JU.1,JU.2,kE.F.kp⟩,⟨JV.1,JV.2,jD.F.kp⟩,bO,pf,kI,vR,vS,ph,pq,⟨AS,JW.1,JW.2,Xa⟩,⟨JX.1,JX.2,lP.F.kp⟩,⟨JY.1,JY.2,gZ.F.kp⟩,⟨JZ.1,JZ.2,lQ.F.kp⟩,⟨J0.1,J0.2,kF.F.kp⟩,⟨J1.1,J1.2,lR.F.kp⟩,⟨Xb,Xc,Xg,jB.F.kp⟩,tj,vT,vU,tm,⟨_,Zo X G Xd⟩,⟨_,Zo X G Xe⟩,⟨_,Zo X G Xf⟩⟩:Tx K mg)⟩
theorem walk{l:adl}{q:Y0}{loose:List Str}{XP:(Str->Option X7)->aax->Prop}{YP:Zw->aax->Prop}{d:DefRec}{K:Params->XW}(hn:l.most=some 63)(Xh:d.params.defaults=[])
 (hY:∀ (w:Zw) (h:aax),YP w h->(K w.params).In h)
 (F:∀ (w:Zw) (mg:Str->Option X7) (fa:Ye) (h:aax),(K w.params).In h->h.Ns Yw mg->mg d.name=some (.ref fa) ->
   ∃ fd:aa0,(∀ (s:Yd) (u:X7),ael s fd ⟨[u],[]⟩ [("_law_script",u)])/\∀ base:aax,(K w.params).In base->base.Ns Yw mg->dP l.prog w (K w.params) mg base (dG l.prog w) 37 fa fd ["_law_script"] (wy (K w.params))) :
 afA q loose XP YP l.row.toRowW d [] (λf vs=>PySem.call f vs) :=
 Gz.NW (k:=37) (x := "_law_script") (CX:=λw=>dG l.prog w) (sp:=λw=>wy (K w.params)) hn Xh ⟨rfl,by decide,by decide⟩ hY F (λ_ _ a ns hl hS=>⟨a,ns,rfl,hS,hl,λ_=>rfl⟩) λ_ _ _ _ _ z=>Mm z
end zd
local macro_rules | `(tactic| walk_at "gzin") => `(tactic| first | (show _ = _; k_is) | (refine' And.intro ?y7 ?y8; (case y7 => walk_at "gzin"); (case y8 => walk_at "gzin")))
local macro_rules | `(tactic| walk_at "f") => `(tactic| (refine' Gz.Fb.mk ?y1 ?y2 ?y3 ?y4; (case y1 => first | (show _ = _; k_is) | (refine' ⟨?y5, ?y6⟩; (case y5 => k_is); (case y6 => k_is))); (case y2 => k_is); (case y3 => k_is); (case y4 => k_is)))
local macro_rules | `(tactic| walk_at "gzfi") => `(tactic| (refine' Gz.Fb.mk ?y1 ?y2 ?y3 ?y4; (case y1 => walk_at "gzin"); (case y2 => k_is); (case y3 => k_is); (case y4 => k_is)))
local macro_rules | `(tactic| walk_at "l") => `(tactic| (refine' L2.b7.mk ?_ ?_ ?_ ?_ <;> k_is))
local macro_rules | `(tactic| walk_at "x") => `(tactic| (refine' Gz.XC.mk ?y1 ?y2 ?y3 ?y4 ?y5 ?y6; (case y1 => k_exc); (case y2 => k_is); (case y3 => k_is); (case y4 => k_is); (case y5 => k_is); (case y6 => k_is)))
namespace PySem.W.Fast
def tw15962675008821074428:=0
def tw3318261276384342385:=0
def tw14759283015791845777:=0
def tw5957884028305557450:=0
def tw14351567198238642842:=0
def tw14967923524545016688:=0
def tw3522845200262506800:=0
def tw7792079530439831758:=0
def tw2064639876028522393:=0
def tw5228366709486599537:=0
def tw10385191958612616957:=0
def tw16255005930893276953:=0
def tw17660689549158695170:=0
def tw18068012478032236255:=0
def tw15039534167153544520:=0
def tw198531915840428434:=0
def tw5017972222949888691:=0
def tw7838466136951886375:=0
def tw3676276316493127862:=0
def tw5675849840581852530:=0
def tw13641989787698074765:=0
def tw2900751554152094318:=0
def tw10125459148577050774:=0
def tw766530510729870691:=0
def tw8830698527347726193:=0
def tw6955271479042840052:=0
def tw10071511804083351862:=0
def tw925842312808979809:=0
def tw16993390099546469666:=0
def tw3377439775572458754:=0
def tw6822367613988824099:=0
def tw942976006735970316:=0
def tw8609490013398973588:=0
def tw14716814239447688460:=0
def tw10580222320235075019:=0
def tw176698436034488206:=0
def tw16072972886521900881:=0
def tw11318581191644194659:=0
def tw13701272103440368051:=0
def tw4167496366043908723:=0
def tw15116484886512139869:=0
def tw5739896022688739295:=0
def tw4729191260067078137:=0
def tw10120745723976743875:=0
def tw990734778021327364:=0
def tw8459542199810775412:=0
def tw17101419693777348034:=0
def tw18397141262588257956:=0
def tw6597467200499013434:=0
def tw2212207927590993420:=0
def tw10166461028565347917:=0
def tw17777800351713658966:=0
def tw12509796119029559551:=0
def tw6679704947247328482:=0
def tw6829451537216269213:=0
def tw11318755566054599703:=0
def tw14728455236047448709:=0
def tw8871212733849228711:=0
def tw7182541189120579318:=0
def tw3598010324074691771:=0
def tw6071592475147779831:=0
def tw12387606770024395412:=0
def tw9457082128640718823:=0
def tw98770523306807003:=0
def tw7399576299227290738:=0
def tw13368916453246125419:=0
def tw18346901990480774011:=0
def tw9544985664416822663:=0
def tw4367220962319319821:=0
def tw13891957952006741339:=0
def tw14401114767823931226:=0
def tw13146104451170654864:=0
def tw2856212312729261869:=0
def tw17379904568438233590:=0
def tw1433954193035858603:=0
def tw18027667973525322608:=0
def tw7749809878463539918:=0
def tw6380652529353999752:=0
def tw17910642589182689112:=0
def tw16259437939905140363:=0
def tw7057612722713281594:=0
def tw2388066185773938673:=0
def tw10156284223550434208:=0
def tw14675553221151869185:=0
def tw15102970649958176441:=0
def tw7451304453862317795:=0
def tw7744227070789972687:=0
def tw1443169687393624191:=0
def tw11912466518290082762:=0
def tw13986685414331977592:=0
def tw11529160725613453322:=0
def tw8967516288645637461:=0
def tw9829568328006640120:=0
def tw10990632112899264378:=0
def tw11625491406712418804:=0
def tw5574533645257750690:=0
def tw10792299791301759225:=0
def tw13352348986567178468:=0
def tw15060235606976536723:=0
def tw12485038910268039344:=0
def tw9101771628225468502:=0
def tw5487642010106217423:=0
def tw13185706414130154268:=0
def tw9350427953967763404:=0
def tw1573663489926262250:=0
def tw115675739579430424:=0
def tw10388945418398903204:=0
def tw2323071804006388460:=0
def tw16015720942836773052:=0
def tw2500987819133874265:=0
def tw4963320533057513329:=0
def tw13827567133635150900:=0
def tw4794863501435011877:=0
def tw6933485599550507376:=0
def tw4681801071654507483:=0
def tw17710705467951877601:=0
def tw346554762397981075:=0
def tw7095348775448607637:=0
def tw16068366846306242644:=0
def tw4438340403930492246:=0
def tw3558112737830719834:=0
def tw224078702779320252:=0
def tw3372930379299008567:=0
def tw5429468616380597498:=0
def tw7580386233774189066:=0
def tw3852532549749242201:=0
def tw16523795323882759518:=0
def tw9832203319037425536:=0
def tw7107764648289697711:=0
def tw5708965684043802338:=0
def tw11778048236826272172:=0
def tw13978634699576853078:=0
def tw9593587182888647135:=0
def tw6318904233392270417:=0
def tw17541861770432704349:=0
def tw1456265976714500826:=0
def tw10457172106789571932:=0
def tw16117443254219038644:=0
def tw501129451138833462:=0
def tw17611513137328276602:=0
def tw228490144966638027:=0
def tw9283204371434272176:=0
def tw18035216056698310286:=0
def tw5336038089369145532:=0
def tw6936675423985664570:=0
def tw460659636692149941:=0
def tw8248860010621431326:=0
def tw2040929551137915161:=0
def tw4172716945732433885:=0
def tw2234933249120315217:=0
def tw3046687643432001737:=0
def tw6083711789827443437:=0
def tw10129387977595392259:=0
def tw248896196824480165:=0
def tw17524718024204373465:=0
def tw5636354994505415549:=0
def tw4272571986129974250:=0
def tw11824134765291849173:=0
def tw2235506381412353326:=0
def tw13795099452638754416:=0
def tw5849145878340027257:=0
def tw4015280546611578988:=0
def tw15863647052779103311:=0
def tw11667118989120190685:=0
def tw4173732080820728583:=0
def tw10519826041968285571:=0
def tw7025333528811098246:=0
def tw8658940852407416682:=0
def tw4415066255224145777:=0
def tw13126850428825032589:=0
def tw3511308640885971049:=0
def tw17119726561405617073:=0
def tw17807006929951629412:=0
def tw11054028428103618224:=0
def tw6737463611098791544:=0
def tw12123444436644824973:=0
def tw10502023058989171207:=0
def tw10000575955885512438:=0
def tw11128193662198101330:=0
def tw729310242694749701:=0
def tw15887117407122231648:=0
def tw1767435289662288325:=0
def tw11619541281738112280:=0
def tw5991516006923012651:=0
def tw16445055160193639773:=0
def tw9404381286721795184:=0
def tw7990076676957242717:=0
def tw17628485395735948603:=0
def tw17449939478689599749:=0
def tw13866994454863435728:=0
def tw12123093982789315102:=0
def tw7986477371957766524:=0
def tw6918117663252760857:=0
def tw6036417642575214103:=0
def tw10008824500121935321:=0
def tw11922308006648858207:=0
def tw17446476996596811078:=0
def tw16572938080343249586:=0
def tw11944933030535075517:=0
def tw1833929338948451754:=0
def tw8333267478942767853:=0
def tw4710044228713549437:=0
def tw10064067637381838062:=0
def tw12397027948831257557:=0
def tw9983198993562450624:=0
def tw7058798725288630988:=0
def tw6144659206083792902:=0
def tw8185468890411566305:=0
def tw13921651688900938130:=0
def tw7546371170107999821:=0
def tw15229312336600958462:=0
def tw12245447577918272422:=0
def tw16575758774556789211:=0
def tw2885674353128298796:=0
def tw6265405256508742210:=0
def tw2751686159344002663:=0
def tw4575903110020398958:=0
def tw11435595267226728349:=0
def tw11199026801975912847:=0
def tw15669485479436797615:=0
def tw17208196084631570490:=0
def tw14109033286664807811:=0
def tw15019817522748391934:=0
def tw10649083839485660242:=0
def tw230292011736161039:=0
def tw1467685997681509116:=0
def tw9610650272166864514:=0
def tw14261630239685915165:=0
def tw17850155247385329709:=0
def tw6726218306976512562:=0
def tw17921064895908342939:=0
def tw2674740175986758836:=0
def tw614705634486825163:=0
def tw12725419860749605437:=0
def tw8420786764947280408:=0
def tw10891670905957686657:=0
def tw677813214628075768:=0
def tw13989682883991207579:=0
def tw16833722062459329091:=0
def tw1034862591470826343:=0
def tw12709890612650758533:=0
def tw16523456600963047611:=0
def tw16065774039123642485:=0
def tw12843191599777056371:=0
def tw4890128473033215685:=0
def tw9189329881496375305:=0
def tw5180129743409359837:=0
def tw1637166994079220945:=0
def tw16873292466268263295:=0
def tw5096497306769380051:=0
def tw6155128552574225346:=0
def tw13069716918346364823:=0
def tw9163389173357898092:=0
def tw6318876556521922784:=0
def tw14430199906560373760:=0
def tw17738776783546188547:=0
def tw6910603281848252189:=0
def tw14862244923014606140:=0
def tw11345052848645805578:=0
def tw9575730625699547973:=0
def tw11083810128060966762:=0
def tw16811457441540431260:=0
def tw6943735518334810166:=0
def tw6068157474558367164:=0
def tw10193490229221305672:=0
def tw17694848530430212455:=0
def tw3082557600904262665:=0
def tw4273715173621238401:=0
def tw823677809933053398:=0
def tw6444660085918704586:=0
def tw4487250998270332291:=0
def tw5484913715583274198:=0
def tw14666352267781028906:=0
def tw14023975852350114038:=0
def tw2133504990161367750:=0
def tw11709668057781171609:=0
def tw6726246528765310222:=0
def tw10435265333240576573:=0
def tw7706333856595910332:=0
def tw2872369942333886178:=0
def tw15986551252624148525:=0
def tw184062346009495067:=0
def tw6523741203143324083:=0
def tw11262808075081920477:=0
def tw4487466098030497903:=0
def tw2621013741805731762:=0
def tw12438304246201632004:=0
def tw3375058345394194754:=0
def tw5795733167938165137:=0
def tw1274432310578781035:=0
def tw18300846384458039142:=0
def tw15193051662459119683:=0
def tw12708293440414009349:=0
def tw13792457439792662187:=0
def tw1749640393971685587:=0
def tw6245294447360623560:=0
def tw11247599324241889695:=0
def tw7242366325854052548:=0
def tw5951211218499033583:=0
def tw4931994143217578449:=0
def tw14192617347357568125:=0
def tw3264373492955497678:=0
def tw12435166719367476883:=0
def tw18033628881959526264:=0
def tw2943288964529086876:=0
def tw11049307214072810692:=0
def tw9393860139830053306:=0
def tw9055561597072385192:=0
def tw11914392328019383786:=0
def tw6178795857842455996:=0
def tw3308348246609643601:=0
def tw11941753059706905610:=0
def tw14484385104414648358:=0
def tw11420574738903671173:=0
def tw15403578119244923695:=0
def tw12072716701009088413:=0
def tw6542169346278626688:=0
def tw3824522714823952327:=0
def tw11828459687680835867:=0
def tw1637829609050543056:=0
def tw2860238851245978453:=0
def tw3968134575650890158:=0
def tw6700493853756132519:=0
def tw6976900218709176773:=0
def tw3743317497869296902:=0
def tw7272894558347411944:=0
def tw18202094792518807696:=0
def tw14028331356113651492:=0
def tw619197859928063054:=0
def tw9436209280844785281:=0
def tw5611409429488630807:=0
def tw351996696895391759:=0
def tw14459326087198837661:=0
def tw14031604592343760194:=0
def tw11616762897974642255:=0
def tw6473281432668995431:=0
def tw15477817284080481998:=0
def tw9767801949746743530:=0
def tw13695572635097133304:=0
def tw17007748531192416896:=0
def tw10953302165939825828:=0
def tw14178938325654024131:=0
def tw17374383107461218242:=0
def tw1405784252579853892:=0
def tw8408546732392499619:=0
def tw15635430697431332795:=0
def tw887667962501319274:=0
def tw14329192061500107957:=0
def tw13833245076268363711:=0
def tw7821050725675783601:=0
def tw14399754878302714099:=0
def tw1676054560269638820:=0
def tw17143109643016173736:=0
def tw498561844322943444:=0
def tw1511328682362007183:=0
def tw7217168860730232402:=0
def tw7290594351793799986:=0
def tw8713736112064573541:=0
def tw15860967539960155114:=0
def tw12350092454961662321:=0
def tw14956471459320973189:=0
def tw957889007958131441:=0
def tw17783118954876429201:=0
def tw16551741772609493574:=0
def tw16511995687987354498:=0
def tw17586936908795927989:=0
def tw5163048249196548036:=0
def tw5271288633844230743:=0
def tw9075635309285749381:=0
def tw14780805279286331637:=0
def tw9999890526481859215:=0
def tw1893099118041607403:=0
def tw3238033507903922212:=0
def tw13327595474613178581:=0
def tw7120529570888401365:=0
def tw17500930390349483439:=0
def tw10543561941867662124:=0
def tw9200339751022361978:=0
def tw13123024613625861660:=0
def tw6612285899558793639:=0
def tw5088018485852209888:=0
def tw9117445235765436243:=0
def tw1940065612869813268:=0
def tw11489443033217943349:=0
def tw10391087425953897989:=0
def tw9779028574623688059:=0
def tw17740083372841717660:=0
def tw15956141428607157254:=0
def tw4666570588337580919:=0
def tw8654892524295368613:=0
def tw5308380559516720014:=0
def tw573270121717075183:=0
def tw2991770906599753037:=0
def tw3541452280269831561:=0
def tw7558484914316707760:=0
def tw15369647188629118046:=0
def tw3624276664084093982:=0
def tw5402807127817941852:=0
def tw11666229766900259734:=0
def tw9825232334292994084:=0
def tw16985897152605578574:=0
def tw15198398574746779220:=0
def tw9482582940521752708:=0
def tw2390043080907815544:=0
def tw7779387451145932675:=0
def tw13914139629198215875:=0
def tw16533588647064903760:=0
def tw5216147389911994312:=0
def tw11438822750729967064:=0
def tw6498208201374302949:=0
def tw1165093962672480879:=0
def tw5355409243608957515:=0
def tw17786546457064273576:=0
def tw5118391865254724020:=0
def tw6935335490661977220:=0
def tw6075721756481054315:=0
def tw6837401566704797392:=0
def tw1611739546458061227:=0
def tw120170594649232635:=0
def tw13388750296951381884:=0
def tw13155390798677510302:=0
def tw4069842438747879032:=0
def tw16188403962176131135:=0
def tw10632951056235887912:=0
def tw12238698104061883506:=0
def tw5317859304831085864:=0
def tw13076335518925256840:=0
def tw11517341130952361660:=0
def tw876512180207616823:=0
def tw14094174588881379818:=0
def tw13748992362676509102:=0
def tw9734561571908017128:=0
def tw17309261915924923226:=0
def tw10382738490463934280:=0
def tw5988977382836070686:=0
def tw4869739525959847129:=0
def tw8979090097493452669:=0
def tw7156617079532669806:=0
def tw794719954254684551:=0
def tw12124208421213284514:=0
def tw15784552996808084957:=0
def tw3463979210485193199:=0
def tw12745915109669672192:=0
def tw6928603088477148344:=0
def tw15455737449274233836:=0
def tw7763414297556176156:=0
def tw8996310894737754241:=0
def tw15143142862195636469:=0
def tw1436372485017895723:=0
def tw16396006907616457932:=0
def tw11292237839471072122:=0
def tw5641575310358366324:=0
def tw17317764005018522484:=0
def tw14333448150559006942:=0
def tw1576260121664020459:=0
def tw8722546806295552692:=0
def tw11224354397663438845:=0
def tw68674660214849476:=0
def tw4562100404859544661:=0
def tw14240818509194240337:=0
def tw5458467465725153062:=0
def tw8821046220268101761:=0
def tw17921999748576642356:=0
def tw9297292464515730040:=0
def tw9142394037126668244:=0
def tw10747408968968227436:=0
def tw13353961406124992712:=0
def tw4313587029456540026:=0
def tw2402059128509857941:=0
def tw345157107277331275:=0
def tw18173680673712651499:=0
def tw9366329301488198854:=0
def tw17700633897975689259:=0
def tw35937182643737381:=0
def tw13178549166613657144:=0
def tw3219576016318985784:=0
def tw17814330098200163981:=0
def tw13966543322076364040:=0
def tw12064403409425894752:=0
def tw18234186967837200006:=0
def tw5525599758312682572:=0
def tw17593988645564533166:=0
def tw12880440545889064303:=0
def tw491355895175736934:=0
def tw2738300942199665571:=0
def tw9372684615429362487:=0
def tw10158295320155779560:=0
def tw7364850494810594921:=0
def tw13398060503987379882:=0
def tw318419603178881971:=0
def tw1253247079083298923:=0
def tw11950766863557326732:=0
def tw9733305948383862308:=0
def tw16239748980595183162:=0
def tw15521959063692977316:=0
def tw3204035687532921059:=0
def tw16247870831302847219:=0
def tw7937739495739555092:=0
def tw16755022918243967345:=0
def tw7715368894737400322:=0
def tw10510184457136900579:=0
def tw7274782627766622290:=0
def tw7234564085640011878:=0
def tw2959336737848049885:=0
def tw3105057175457095510:=0
def tw18259194102487898222:=0
def tw12261847848864990535:=0
def tw12147711490199443265:=0
def tw13240147169727946291:=0
def tw5668337066523436433:=0
def tw1561359496809697541:=0
def tw3622223096314555558:=0
def tw1501357160765896015:=0
def tw11823620575973636703:=0
def tw17349821216315239960:=0
def tw7180060162974787168:=0
def tw805073763688413621:=0
def tw18139822487904720641:=0
def tw17805000899995776709:=0
def tw2783389304861897692:=0
def tw5735672557140798523:=0
def tw10255945869012931584:=0
def tw7919920537833490328:=0
def tw294830222237039342:=0
def tw8618518402529295554:=0
def tw6925118103586285562:=0
def tw16333361047418639143:=0
def tw17166334421091175983:=0
def tw11268270014501983207:=0
def tw6042553009688426110:=0
def tw486309746931989966:=0
def tw9378783319853733270:=0
def tw11934119278214038343:=0
def tw10027444721157402120:=0
def tw1769224278366021928:=0
def tw15298898208966836584:=0
def tw14784310775212598828:=0
def tw11536206148706260576:=0
def tw17087944337026034669:=0
def tw3088229478881556618:=0
def tw5321544376744403200:=0
def tw8077731973502274667:=0
def tw16563929821948070554:=0
def tw4260182459822982670:=0
def tw52581821253213833:=0
def tw667598412274599911:=0
def tw17576709419949568244:=0
def tw8491515232290801753:=0
def tw1170764612000669555:=0
def tw7356576227322672115:=0
def tw12406860286139573046:=0
def tw8192270066034135230:=0
def tw6454013235272371185:=0
def tw925961270147510966:=0
def tw3583645949237495039:=0
def tw12081810487241357282:=0
def tw5194723719429746876:=0
def tw12321168899705085111:=0
def tw11244006152842851935:=0
def tw17194805564348977073:=0
def tw14047705157445260031:=0
def tw15243442531258649555:=0
def tw8727862992091137330:=0
def tw11437521945162858727:=0
def tw16909815242083467471:=0
def tw17932569117708478518:=0
def tw9479020417267984141:=0
def tw4991174000039870195:=0
def tw3198809349504963706:=0
def tw6771429786362488921:=0
def tw5918840627061199366:=0
def tw2784993201394737321:=0
def tw8825917523397955137:=0
def tw4684279397619040792:=0
def tw14652718938340224314:=0
def tw12868315349641589932:=0
def tw11898552760610606857:=0
def tw470691637782215917:=0
def tw171119471437575881:=0
def tw536885408933358080:=0
def tw12814844416043249816:=0
def tw3423682319846222392:=0
def tw13998491372126771341:=0
def tw17898868108038732125:=0
def tw8637520898977718531:=0
def tw8663290333803868002:=0
def tw12675220564234307012:=0
def tw506521783890593261:=0
def tw12590543872087067742:=0
def tw13530636205417004727:=0
def tw15136945927434094719:=0
def tw4065160279056429833:=0
def tw6842464218739886665:=0
def tw8167076013712749291:=0
def tw14230007204089495711:=0
def tw10702049262305792:=0
def tw16474031128588117249:=0
def tw10432284570750843773:=0
def tw10651387061380993498:=0
def tw12514000086231475267:=0
end PySem.W.Fast
open PySem PySem.W PyProof.Rows
set_option maxRecDepth 100000 in
set_option maxHeartbeats 0 in
theorem PySem.Challenge.cw_gaze_k68_no_great_rise_is_missed_holds : PySem.Challenge.rw_gaze_k68_no_great_rise_is_missed.Holds := by
 w_on;o_law;k_head;(case hw=>w_witness2)
 k_fill
 refine zd.walk (l:=PySem.Challenge.rw_gaze_k68_no_great_rise_is_missed) rfl rfl (λw h Y=>PySem.W.kIn_of Y) ?F
 case F =>
  intro w mg fa h KX G Xi;refine' zd.Wx KX G Xi ?_ ?_ ?_ ?_ ?_ ?_ ?_ ?_ ?_ ?_ ?_ ?_ ?_ ?_ ?_ ?_ ?_ ?_ ?_ ?_ ?_ ?_ ?_ ?_ ?_ ?_ ?_ ?_ ?_ ?_ ?_ ?_ ?_ ?_ ?_ ?_ ?_ ?_ ?_ ?_ ?_ ?_ ?_ ?_ ?_ ?_ ?_ ?_ ?_ ?_ ?_ ?_ ?_ ?_ ?_ ?_ ?_ ?_ ?_ ?_ ?_ ?_ ?_ ?_ ?_ ?_ ?_ ?_ ?_ ?_ ?_ ?_ ?_ ?_ ?_ ?_ ?_ ?_ ?_ ?_ ?_ ?_ ?_ ?_ ?_ ?_ ?_ ?_ ?_ ?_ ?_ ?_ ?_ ?_ ?_ ?_ ?_ ?_ ?_ ?_ ?_ ?_ ?_ ?_ ?_ ?_ ?_ ?_ ?_ ?_ ?_ ?_ ?_ ?_ ?_ ?_ ?_ ?_ ?_ ?_ ?_ ?_ ?_ ?_ ?_ ?_ ?_ ?_ ?_ ?_ ?_ ?_ ?_ ?_ ?_ ?_ ?_ ?_ ?_ ?_ ?_
  rotate_left 13
  iterate 10 k_is
  iterate 12 walk_at "f"
  iterate 3 walk_at "gzfi"
  iterate 63 walk_at "f"
  iterate 17 k_is
  walk_at "l"
  iterate 4 k_is
  walk_at "l"
  iterate 5 k_is
  walk_at "l"
  iterate 6 k_is
  walk_at "l"
  iterate 10 k_is
  iterate 4 walk_at "x"
  iterate 3 k_is
#print axioms PySem.Challenge.cw_gaze_k68_no_great_rise_is_missed_holds
