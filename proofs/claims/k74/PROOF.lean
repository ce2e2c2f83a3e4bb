import PyProof.Rows.All
import Wide.All
import OpenK.AllK
import Wide.FinOn
import Lean
import PyProof.EqAt
import PyProof.EqKinds
import PyProof.TupleCall
import KE.KSortAsk
import KE.KSortTup
import KE.KRevIter
import KE.LcSums
import KE.KDictSum
import KE.KDictList
import PyProof.AttrMissHeap
import PySem.Challenge.RW_gaze_k74_drawings
set_option Elab.async false
set_option linter.all false
set_option maxRecDepth 100000
set_option maxHeartbeats 4000000
set_option exponentiation.threshold 2000
set_option compiler.extract_closed false
open PySem renaming wpAny_bind → Yt, wpAny_pure → Yz, Value → YB, Shared → YK, Addr → YN, wpAny → YT, sizeLine → Y0, starEach → Y2, mainGlobals → Y9, lookup_relabel_local → Zm, bootBuiltins → Zn, Program → Zy, wpAny_mono → Zz, wpAny_truthy_bool → ZH, codeAny_builtin → ZI, wpAny_holding → ZN, wpAny_newObj_type → ZR, wpAny_Call_Name_kw → ZU, wpAny_call_entry → ZZ, wpAny_callSpecial?_slot → Z2, compareOp → Z5, sizeLine_eq → Z8, World → aaa, sysModules → aal, Around → aaq, Builtin → aas, intItems → aax, wpAny_typeNameOfWhole_keyiter → aay, Stmt → aaA, plainId_quiet → aaB, backTo → aaC, wpAny_dictEntries → aaF, mem_of_lookup → aaI, wpAny_updateSeq → aaJ, behindInMarks → aaQ, tupleKind_room_in1 → aaS, wpAny_missedRemoval_other → aaV, foldedSetIterable → aaY, wpAny_typeNameOf_keyiter → aa1, Heap → aa4, DictEntry → aa9, pyNext → abe, wpAny_letGo → abg, size_of_entries → abj, builtinLookup_eq_fast → abk, binaryOp → abm, wpAny_rule → abn, wpAny_attempt → abq, codeAny → abv, codeAny_call_builtin → abw, wpAny_seqItems → abx, wpAny_tryCatch → aby, wpAny_fieldsOf → abA, FuncData → abD, wpAny_isInstance → abG, wpAny_askSetting → abH, sliceBounds → abI, codeAny_mono → abM, wpAny_passesOwn → abQ, attributeBase → abR, wpAny_ite_split → abU, rawInt → abY, wpAny_pyIter_list → ab4, wpAny_setState_of → ab9, wpAny_setField → aca, wpAny_isOneOf_keyiter → acf, Expr → ach, intKind → aci, checkBuiltinCall → acm, wpAny_execs_nil → acv, swapsWith → acw, letOwnedTupleGo → acx, argBest → acC, wpAny_specialOf → acG, typeLookup_type → acI, wpAny_setEntries_of → acJ, Tok → acK, wpAny_field → acM, wpAny_pyIter_range → acR, entryFor → acT, wpAny_setField_rec → acX, firstArgMember → ac4, tupleKind → adb, assignEach → adf, cLine → adi, wpAny_getItem_list_slice → adk, wpAny_comprehension_free → adm, updateSeq → adn, wpAny_pyIter_enum → ado, wpAny_pyIter_slot → adp, IsRangeIter → adv, keywordEach → adx, richCompare → adA, wpAny_of_eq → adB, intItems_at → adC, wpAny_newList → adD, wpAny_eqBool_int → adJ, argsOk → adM, wpAny_pyNext_range_end → adP, wpAny_pyIter_rangeiter → adQ, wpAny_pyNext_enum_item → adU, wpAny_isTrue_Compare1 → ad3, wpAny_pyNext_enum_end → aeb, wpAny_notOrdered_dict → aed, wpAny_dictEpoch → aef, wpAny_call → ael, NameKind → aem, Scope → aeo, wpAny_pyIter_revIter → aer, wpAny_pyIter_keyiter → aev, wpAny_newTuple → aez, isSubtype_stop → aeA, isSubtype_type → aeC, builtinKind → aeF, numAt → aeG, call_enumerate_list → aeI, atKey → aeK, wpAny_standAt → aeR, wpAny_pyIter_tuple → aeS, evalPart_none → aeT, seqItems? → aeX, PyData → aeY, wpAny_tupleItemsOf → ae5, entryOfKey → afa, BindsTo → afg, typeLookup → afh, list_append → afj, valueAt → afo, Within → afv, Result → afx, seqIndex_neg → afz, wpAny_execs_cons → afE, wpAny_pyIter_zip → afI, backToKw → afT, setField → afU, hashInt → afV, getMethod → afX, getItem → afY, seqIndex_of → afZ, slicePick → af0, Keyword → af1, callerA → af2, notedBy → af4, plainId → af5, codeAny_of_tree → agj, builtinsNs → agt, wpAny_Name → agu, pyIter → agv, typeIs_int → agw, call_meets → agx, isInstance → agy, setsByText → agC, standAt → agE, compEnvC → agG, newTuple → agL, SetTable → agO, Paired → agU, isTrue → agV, lastMarks → agX, typeOf → agY, pickOrder → ag6, bindL → aha, bindC → ahb, newList → ahc, setNext → ahe
open PySem.W renaming Frag → Yu, mg_none_of → Zf, nsIn → Zi, findIn → ZA, kitOne → ZC, kia_one → ZX, emptyDict → aab, instObj → aaG, mg_of → aaU, keepIn → aba, fnOf → abf, subIn → abS, plainGet → acj, plainGet_of → acy, callWith_K → acS, lookIn → acZ, typeIn → ac0, codeIn → ac1, exmOne → ac3, methodObj → ade, hasDictIn → adh, cellsFrom_some → adR, hideAll → ad1, isFn → ad4, takerIn → ad5, makesIn → ad6, methodCall_KW → ad8, OpenLaw → aec, KdlSrc → aeB, hideAll_get → aeD, of_hideAll → aeO, clsIn → aeW, plainOver → afd, kitx_list → afe, kitx_dict → aff, handedIn → afF, kat_kind → afN, kas_sort → afO, kas_item → afP, kat_snds → afQ, kitMeta → af3, KatTups → af9, kas_ask → agc, kat_run → agd, kat_lt → agn, WalkO → agI
open List renaming getD_eq_getElem?_getD → Yv, length_map → Yw, getElem?_eq_getElem → Yx, getElem?_eq_some_iff → YC, getElem?_map → YF, size_toArray → YI, length_append → YJ, mem_append_right → YL, mem_map → YO, length_range → YQ, length_singleton → YR, mem_cons → YV, map_cons → YW, mem_append → YX, nil_append → YY, mem_singleton → YZ, range → Y1, mem_of_getElem? → Y6, mem_filter → Y8, getElem?_range → Zb, map_append → Zd, length_filter_le → Ze, mem_append_left → Zl, replicate → Zp, length_cons → Zr, filter_cons → Zs, mem_cons_of_mem → Zu, getElem?_append_left → Zx, getElem?_append_right → ZD, any_eq_true → ZE, getElem?_eq_none → ZF, map_map → ZG, mem_range → ZK, drop_eq_getElem_cons → ZS, toArray → ZT, any_cons → ZV, filterMap_cons → ZW, nodup_cons → ZY, getElem?_replicate → Z0, length_eq_zero_iff → Z1, filter_eq_self → Z9, mem_iff_getElem? → aac, take_succ → aah, find?_cons → aai, length_reverse → aam, map_congr_left → aan, length_replicate → aar, mem_filterMap → aau, take_length → aaz, all_eq_true → aaP, getElem?_reverse → aaR, take_append_drop → aaT, ext_getElem? → aa2, getElem?_cons_succ → aa7, mem_cons_self → abd, length_nil → abh, any_append → abi, append_assoc → abo, not_mem_nil → abE, getElem?_set_self → abX, take_of_length_le → ab0, drop_of_length_le → ab1, lookup → ab5, reverse_cons → ab6, foldl_append → ab7, map_nil → acb, length_take → ack, ext_getElem → acn, getElem?_set_ne → acq, append_nil → acz, foldl_cons → acD, toList_toArray → acL, range_succ → acN, nodup_nil → ac6, findIdx?_eq_none_iff → ac8, length_erase_of_mem → ads, nodup_append → adt, eraseIdx_cons_succ → adF, length_drop → adK, getElem_mem → adN, drop_eq_nil_of_le → adV, length_pos_of_mem → adZ, of_mem_zip → ad9, length_set → aea, contains_iff_mem → aek, mem_iff_getElem → aeq, pairwise_append → aes, mem_erase_of_ne → aex, length_pos_iff → aeH, filter_sublist → aeL, getElem_of_mem → aeM, all_cons → aeU, pairwise_cons → ae2, mem_replicate → ae3, filter_append → ae6, map_replicate → ae8, any_eq_false → afc, push_toArray → afk, pairwise_map → afn, map_id' → afD, drop_length → afG, map_snd_zip → afM, sum_append → agf, getD → agl, sum_cons → agJ, findIdx? → agQ, sum_nil → ag1, all_map → ag4
open PySem.Heap renaming get?_push_of_some → Yy, lt_size → YA, get?_push_size → YH, get?_update_other → YM, get?_update_self → Zo, size_push → aap, FlyingW → afB, size_update → afK, ExtBut → agg
open Nat renaming le_refl → YD, le_trans → YE, ne_of_lt → YS, lt_of_lt_of_le → YU, zero_le → Zc, lt_of_le_of_lt → ZL, ne_of_gt → ZM, lt_irrefl → Z6, not_lt_zero → aat, lt_succ_of_lt → abt, lt_succ_self → abC, le_of_lt → abL, pow_le_pow_right → acs, le_succ → acA, sub_self → acW, lt_of_succ_lt_succ → adX, le_of_eq → ad7, add_sub_cancel → ae7, le_succ_of_le → afr, succ_ne_self → afR, lt_trans → ag2, pow_succ → ag5, zero_add → ag7
open PySem.Str renaming ofString → YG, append_assoc → adO, append_empty → afS, join → agS
open Bool renaming false_ne_true → Y3, false_eq_true → Y5, and_eq_true → aak, eq_iff_iff → aaH, or_eq_true → abT, false_and → acY, eq_false_iff → adl, true_and → adH, not_true → ae4, not_false → agr, and_false → ags, or_false → agF, false_or → agK, and_self → agN
open PySem.Value renaming ref → Y7, bool → aaj, int → aaX, isInt → ab2, type → ab3, builtin → adz, float → afW, isStrOf → agD, bytes → ag8
open PyProof.Rows renaming callWith_type1 → Za, seqObj → ZQ, envOfC → aaw, callWith_builtin1 → aa5, listUpdate_at → abp, get?_update_seq → acF, IntsAre → ac2, kindOf → adj, subscriptTail → ady, seqEpoch_at → adE, subscriptTail_builtinR → adS, AllBare → ad2, mirror_perm → aeJ, Constant_none → aeQ, boot_range → afb, Subscript_ → afi, listItems_at → afC, entry_list_sort → aga, mulOk_of_bits → agm, failedOf → agH, Call_ → agW, bits_add → agZ, bits_mul → ag0, tuples' → ahd
open PySem.Obj renaming mapSeq → Zg, mapFields → abr, data_mapDictKeys → aeu, data_mapFields → ae1, putSet → agB
open Option renaming map_eq_some_iff → Zh, isNone → abu, getD_some → abF, isSome_iff_exists → abN, ne_none_iff_exists' → acQ, isNone_iff_eq_none → ac7, toList_some → ae0, isSome_map → afp
open Array renaming getElem?_eq_getElem → Zj, length_toList → Z7, getElem?_eq_none → abc, getElem?_toList → acg, getD_eq_getD_getElem? → acE, toArray_toList → aew, append_assoc → aeP, toList_push → aft, toList → afw, toList_inj → afL, size_push → agb, getD → agz
open PySem.PassesOwn renaming never → Zk, leaving → afu
open Int renaming toNat_natCast → Zq, le_refl → ZJ, toNat_of_nonneg → aao, mul_nonneg → abb, le_trans → abO, zero_add → abP, mul_le_mul_of_nonneg_left → acp, mul_le_mul → ada, toNat → aej, emod_lt_of_pos → aeZ, ediv_le_self → afJ, le_antisymm → af6, ediv_nonneg → af7, emod_nonneg → age, ediv_one → ag3, mul_one → ag9, add_mul → ahf
open Ne renaming symm → Zt
open PySem.Around renaming under_plainId → Zv, under → afy
open PySem.Builtin.Range renaming rangeSize → Zw, rangeFitsLong → af8
open PySem.Heap.SameBut renaming update → ZO
open PySem.F renaming plainAttrs_list → ZP, slot_list_append → aae, type_list_append → aaf, slot_dict_keyiterator_next → aag, slot_enumerate_next → aaM, plain_min_loop → aaN, plain_extend_loop → aaW, args_dict_keyiterator_next_1 → abz, entry_dict_keyiterator_next → abJ, slot_list_index → abV, entry_min_loop → abZ, args_enumerate_next_1 → aco, entry_enumerate_next → acu, excBase_ValueError → acP, entry_extend_loop → ac9, type_list_index → adI, slot_dict_iter → adW, plainAttrs_str → ad0, slot_dict_pop → aee, slot_dict_len → aeg, slot_tuple_lt → aeh, plain_set_new → aei, args_list_append_2 → aep, entry_list_append → aeE, slot_list_append → aeV, plain_min → afl, entry_min → afm, kind_min → afH, slot_set_iter → agk
open PySem.SetTable.below renaming go → aad
open PySem.Calls renaming spliced_cons → aav, spliced_nil → aaE, evalArgs_plain → acr, Name_function_global → acO, call_function_entry → ac5, callWith_builtin → adT
open PyProof.Rows.F renaming plain_set_update_loop → aaD, entry_set_update_loop → abB
open PySem.Builtin.Builtins renaming bindParams → aaK
open PySem.Builtin.List renaming listExtendWith → aaL, listLengthHint → abl, listSameRef → adq, listItems → adY, listUpdate → agR, listTouch → agT
open False renaming elim → aaO
open True renaming intro → aaZ
open PySem.W.WData renaming int → aa0, weightAll → aa8, layable → ace, weight → aet, layableAll → agA
open PySem.SetTable.probe renaming go → aa3
open PySem.Builtin.Int renaming intBits → aa6
open PySem.Builtin.SmallTypes renaming ownedTupleIsFree → abK
open PySem.W.KT renaming len_app → abW, join_ones → aey, app_list → aeN
open PySem.SetTable renaming insertAt → ab8, probeStart → acH, has → acV, fill → adG, freeSlot → afs, runEnd → agi, probe → agp, turns → agq, slot → agP
open Or renaming inl → acd, inr → afA
open ForInStep renaming yield → acB
open PySem.PyData renaming strOk → acU, eqv → aen, canLayAll0 → afq, depthAll → agh, canLay0 → ago, eqvAll → agM
open PySem.Data renaming cell → adg, fields → adw
open Sum renaming inl → adu, inr → ae9
open PySem.IsL renaming update → adL
namespace L2
open PySem PySem.Spec PyProof.Rows
abbrev Key:=Sum Int Str
noncomputable def nR:Key->YB->Bool
 | .inl k,v=>ab2 k v
 | .inr x,v=>agD x v
noncomputable def Kh(w:aaa):Key->Int
 | .inl k=>afV k
 | .inr x=>hashStr w x
theorem jB:∀ {k:Key} {v:YB},nR k v=true->(∃ i t,k=adu i/\v=aaX i t)∨(∃ x t,k=ae9 x/\v=Value.str x t)
 | .inl i,v,h=>by obtain⟨t,e⟩:=Value.isInt_shape (k:=i) (v:=v) h;exact .inl ⟨i,t,rfl,e⟩
 | .inr x,v,h=>by obtain⟨t,e⟩:=Value.isStrOf_shape (x:=x) (v:=v) h;exact .inr ⟨x,t,rfl,e⟩
theorem Ki(i:Int)(t:Tok):nR (.inl i) (.int i t)=true:=by simp[nR,ab2]
theorem Kj(x:Str)(t:Tok):nR (.inr x) (.str x t)=true:=by simp[nR,agD]
theorem Kk(a b:Int):decide ((adu a:Key)=adu b)=(a == b):=by
 by_cases e:a=b
 .subst e;simp
 .have h:¬ (adu a:Key)=adu b:=λq=>e (Sum.inl.inj q);rw[decide_eq_false h];exact (beq_eq_false_iff_ne.mpr e).symm
theorem Kl(a b:Str):decide ((ae9 a:Key)=ae9 b)=decide (a=b):=by
 by_cases e:a=b
 .subst e;simp
 .have h:¬ (ae9 a:Key)=ae9 b:=λq=>e (Sum.inr.inj q);rw[decide_eq_false h,decide_eq_false e]
theorem Km(a:Int)(b:Str):decide ((adu a:Key)=ae9 b)=false:=decide_eq_false (λq=>nomatch q)
theorem Kn(a:Str)(b:Int):decide ((ae9 a:Key)=adu b)=false:=decide_eq_false (λq=>nomatch q)
noncomputable def ee(prog:Zy)(w:aaa):PySem.KeyKind prog w Key where
 is:=nR
 hash:=Kh w
 inj:=λv a b ha hb=>by
  rcases jB ha with ⟨i,t,rfl,rfl⟩|⟨x,t,rfl,rfl⟩
  .rcases jB hb with ⟨j,u,rfl,e⟩|⟨y,u,rfl,e⟩
   .injection e with e1 _;rw[e1]
   .exact nomatch e
  .rcases jB hb with ⟨j,u,rfl,e⟩|⟨y,u,rfl,e⟩
   .exact nomatch e
   .injection e with e1 _;rw[e1]
 byValue:=λk v h=>by
  rcases jB h with ⟨i,t,rfl,rfl⟩|⟨x,t,rfl,rfl⟩<;>rfl
 pyHash:=λhv h=>by
  rcases jB hv with ⟨i,t,rfl,rfl⟩|⟨x,t,rfl,rfl⟩
  .exact wpAny_pyHash_int h
  .exact wpAny_pyHash_str h
 eqBool:=λhu hv h=>by
  rcases jB hu with ⟨i,t,rfl,rfl⟩|⟨x,t,rfl,rfl⟩
  .rcases jB hv with ⟨j,u,rfl,rfl⟩|⟨y,u,rfl,rfl⟩
   .rw[Kk] at h;exact adJ h
   .rw[Km] at h;exact SeqAt.EqAt.int_str i t y u _ _ _ _ h
  .rcases jB hv with ⟨j,u,rfl,rfl⟩|⟨y,u,rfl,rfl⟩
   .rw[Kn] at h;exact SeqAt.EqAt.str_int x t j u _ _ _ _ h
   .rw[Kl] at h;exact wpAny_eqBool_str h
 «strs»:=λk x t v h=>by
  rcases jB h with ⟨i,u,rfl,e⟩|⟨y,u,rfl,e⟩
  .exact nomatch e
  .injection e with e1 _;subst e1;cases v<;>rfl
theorem Ko(prog:Zy)(w:aaa)(i:Int)(t:Tok):(ee prog w).is (.inl i) (.int i t)=true:=Ki i t
theorem Kp(prog:Zy)(w:aaa)(x:Str)(t:Tok):(ee prog w).is (.inr x) (.str x t)=true:=Kj x t
inductive V where
 | non|bl (b:Bool)|int (i:Int)|str (x:Str)|byt (b:Array UInt8)|flt (b:UInt64)|ref (a:YN)|ty (n:String)
 deriving DecidableEq
def RelV:V->YB->Prop
 | .non,u=>u=Value.none
 | .bl b,u=>u=aaj b
 | .int i,u=>∃ t,u=aaX i t
 | .str x,u=>∃ t,u=Value.str x t
 | .byt b,u=>∃ t,u=ag8 b t
 | .flt b,u=>∃ t,u=afW b t
 | .ref a,u=>u=Y7 a
 | .ty n,u=>u=ab3 n
abbrev Vals:List V->List YB->Prop:=agU RelV
theorem Vals.length(r:Vals xs us):xs.length=us.length:=Paired.length r
theorem Vals.get:∀ {xs:List V} {us:List YB} {i:Nat} {x:V},Vals xs us->xs[i]?=some x->∃ u,us[i]?=some u/\RelV x u
 | _,_,_,_,.nil,e=>by simp at e
 | _,_,0,_,.cons r _,e=>by simp at e;subst e;exact⟨_,rfl,r⟩
 | _,_,i+1,x,.cons _ t,e=>by obtain⟨u,h1,h2⟩:=Vals.get (i:=i) (x:=x) t (by simpa using e);exact⟨u,by simpa using h1,h2⟩
theorem Vals.set(r:RelV x u):∀ {xs:List V} {us:List YB} (i:Nat),Vals xs us->Vals (xs.set i x) (us.set i u)
 | _,_,_,.nil=>.nil
 | _,_,0,.cons _ t=>.cons r t
 | _,_,i+1,.cons q t=>.cons q (Vals.set r i t)
theorem Vals.append:∀ {xs ys:List V} {us ws:List YB},Vals xs us->Vals ys ws->Vals (xs++ys) (us++ws)
 | _,_,_,_,.nil,s=>s
 | _,_,_,_,.cons r t,s=>.cons r (Vals.append t s)
theorem Vals.take:∀ {xs:List V} {us:List YB} (n:Nat),Vals xs us->Vals (xs.take n) (us.take n)
 | _,_,0,_=>.nil
 | _,_,_+1,.nil=>.nil
 | _,_,n+1,.cons r t=>.cons r (Vals.take n t)
theorem Vals.drop:∀ {xs:List V} {us:List YB} (n:Nat),Vals xs us->Vals (xs.drop n) (us.drop n)
 | _,_,0,r=>r
 | _,_,_+1,.nil=>.nil
 | _,_,n+1,.cons _ t=>Vals.drop n t
def eO:Option V->Option YB->Prop
 | some v,some u=>RelV v u
 | none,none=>True
 | _,_=>False
def KV{κ:Type}:List (κ × V)->List (κ × YB)->Prop:=agU λ(p:κ × V) (q:κ × YB)=>p.1=q.1/\RelV p.2 q.2
noncomputable def kV:Key->V
 | .inl i=>.int i
 | .inr x=>.str x
inductive HO where
 | lst (xs:List V)
 | tup (xs:List V)
 | dK (kvs:List (Key × V))|dT (kvs:List (List Key × V))
 | set (S:Int->Bool) (n:Nat)
 | ins (C dx:YN) (fs:List (Str × V))
 | own (x:YN)
 | xd (fs:List (Str × V))
 | met (f x:YN)
 | fP (lo hi:Int)
 | aN (o:Obj) (u:HO)
 | tbl (ps:Array YB)
 | ext (φ:aa4->Prop)
abbrev Hp:=YN->Option HO
noncomputable def upd(H:Hp)(a:YN)(o:HO):Hp:=λb=>if b=a then some o else H b
theorem az:upd H a o a=some o:=by unfold upd;rw[if_pos rfl]
theorem aC(h:b≠a):upd H a o b=H b:=by unfold upd;rw[if_neg h]
theorem tD:upd (upd H a o) a u=upd H a u:=by funext b;unfold upd;split<;>rfl
theorem tE{H:Hp}{a b:YN}{o u:HO}(h:H a=some o)(h':H b=some u)(d:o≠u):a≠b:=by intro e;subst e;rw[h] at h';exact d (Option.some.inj h')
theorem hJ{H:Hp}{a b:YN}{o:HO}(h:H a=some o)(h':H b=none):a≠b:=by intro e;subst e;rw[h] at h';cases h'
section
variable(P:Zy)(w:aaa)
def bw(H:Hp)(h:aa4)(a:YN):HO->Prop
 | .lst xs=>xs.length<=Y0/\∃ (ai:List YB) (n:Nat),Vals xs ai/\h.get? a=some { cls:=.type "list",data:=.seq ai.toArray n }
 | .tup xs=>xs.length<=Y0/\∃ ai:List YB,Vals xs ai/\IsTup h a ai.toArray
 | .dK kvs=>kvs.length<=Y0/\(a == aal)=false/\∃ vs,KV kvs vs/\h.DictOf (ee P w) a vs
 | .dT kvs=>kvs.length<=Y0/\(a == aal)=false/\∃ xs:List (List Key × YN × YB),
  agU (λ(p:List Key × V) (q:List Key × YN × YB)=>p.1=q.1/\H q.2.1=some (.tup (p.1.map kV))/\RelV p.2 q.2.2) kvs xs /\
  ∃ o es ep,h.get? a=some o/\o.ExactDict/\o.data = .dict es ep/\es.toList=xs.map (afa (adb (ee P w)))/\(xs.map (·.1)).Nodup
 | .set S n=>h.SetOf (aci P w) a S n
 | .ins C dx fs=>H dx=some (.own a)/\fs.length<=1000/\dx≠a/\h.get? a=some (aaG C dx) /\
  ∃ mA,h.Ns1 dx mA/\(∀ f,eO (fs.lookup f) (mA f))/\afv mA (fs.map (·.1))
 | .own _=>∃ o,h.get? a=some o
 | .xd fs=>∃ mA,h.Ns1 a mA/\∀ f,eO (fs.lookup f) (mA f)
 | .fP lo hi=>∃ t u v,h.get? a=some { cls:=.type "range",data:=.fields #[.int lo t,.int hi u,.int 1 v] }
 | .aN o u=>h.get? a=some o/\bw H h a u
 | .tbl ps=>h.get? a=some { cls:=.none,data:=.fields ps }
 | .met f x=>h.get? a=some (ade (.ref f) (.ref x))
 | .ext φ=>φ h/\(∃ o,h.get? a=some o)/\∀ h1 h2:aa4,φ h1->(∀ o,h1.get? a=some o->h2.get? a=some o)->φ h2
def bN(H:Hp)(h:aa4):Prop:=∀ a o,H a=some o->bw P w H h a o
end
section
theorem bw.lt(x:bw P w H h a o):a<h.objs.size:=by
 cases o with
 | lst xs=>obtain⟨_,_,_,_,e⟩:=x;exact YA e
 | tup xs=>obtain⟨_,_,_,p⟩:=x;exact p.lt
 | dK kvs=>obtain⟨_,_,_,_,o,_,_,e,_⟩:=x;exact YA e
 | dT kvs=>obtain⟨_,_,_,_,o,_,_,e,_⟩:=x;exact YA e
 | set S n=>obtain⟨o,_,_,_,e,_⟩:=x;exact YA e
 | ins C dx fs=>obtain⟨_,_,_,e,_⟩:=x;exact YA e
 | own y=>obtain⟨_,e⟩:=x;exact YA e
 | xd fs=>obtain⟨_,⟨_,_,_,e,_⟩,_⟩:=x;exact YA e
 | fP lo hi=>obtain⟨_,_,_,e⟩:=x;exact YA e
 | aN ob u=>obtain⟨e,_⟩:=x;exact YA e
 | tbl ps=>exact YA (show h.get? a=some _ from x)
 | met f y=>exact YA (show h.get? a=some _ from x)
 | ext φ=>obtain⟨_,⟨_,e⟩,_⟩:=x;exact YA e
theorem Paired.wk:∀ {l₁:List α} {l₂:List β},agU F l₁ l₂->(∀ a b,F a b->G a b)->agU G l₁ l₂
 | _,_,.nil,_=>.nil
 | _,_,.cons r t,f=>.cons (f _ _ r) (Paired.wk t f)
theorem bw.fh(x:bw P w H h a o)(k:∀ b u,(b=a∨H b=some (.own a))->h.get? b=some u->h'.get? b=some u)(ho:∀ b,H b=some (.own a)->H' b=some (.own a))(ht:∀ b xs,H b=some (.tup xs)->H' b=some (.tup xs)):bw P w H' h' a o:=by
 induction o with
 | lst xs=>obtain⟨z,ai,n,r,e⟩:=x;exact⟨z,ai,n,r,k _ _ (.inl rfl) e⟩
 | tup xs=>obtain⟨z,ai,r,ob,e,c⟩:=x;exact⟨z,ai,r,ob,k _ _ (.inl rfl) e,c⟩
 | dK kvs=>obtain⟨z,y,vs,r,ob,es,ep,e,c⟩:=x;exact⟨z,y,vs,r,ob,es,ep,k _ _ (.inl rfl) e,c⟩
 | dT kvs =>
  obtain⟨z,y,xs,r,ob,es,ep,e,c⟩:=x;exact⟨z,y,xs,Paired.wk r λp q z=>⟨z.1,ht _ _ z.2.1,z.2.2⟩,ob,es,ep,k _ _ (.inl rfl) e,c⟩
 | set S n=>obtain⟨ob,es,ep,t,e,c⟩:=x;exact⟨ob,es,ep,t,k _ _ (.inl rfl) e,c⟩
 | ins C dx fs =>
  obtain⟨d,z,ne,e,mA,⟨od,es,ep,e2,c⟩,r⟩:=x;exact⟨ho _ d,z,ne,k _ _ (.inl rfl) e,mA,⟨od,es,ep,k _ _ (.inr d) e2,c⟩,r⟩
 | own y=>obtain⟨ob,e⟩:=x;exact⟨ob,k _ _ (.inl rfl) e⟩
 | xd fs=>obtain⟨mA,⟨od,es,ep,e,c⟩,r⟩:=x;exact⟨mA,⟨od,es,ep,k _ _ (.inl rfl) e,c⟩,r⟩
 | fP lo hi=>obtain⟨t,u,v,e⟩:=x;exact⟨t,u,v,k _ _ (.inl rfl) e⟩
 | aN ob u ih=>obtain⟨e,q⟩:=x;exact⟨k _ _ (.inl rfl) e,ih q⟩
 | tbl ps =>
  have e:h.get? a=some { cls:=.none,data:=.fields ps }:=x;show h'.get? a=some { cls:=.none,data:=.fields ps };exact k a _ (.inl rfl) e
 | met f y =>
  have e:h.get? a=some (ade (.ref f) (.ref y)):=x;show h'.get? a=some (ade (.ref f) (.ref y));exact k a _ (.inl rfl) e
 | ext φ=>obtain⟨p,⟨o,e⟩,st⟩:=x;exact⟨st _ _ p λo q=>k _ _ (.inl rfl) q,⟨o,k _ _ (.inl rfl) e⟩,st⟩
theorem bN.lt(x:bN P w H h)(e:H a=some o):a<h.objs.size:=(x a o e).lt
theorem bN.fresh(x:bN P w H h)(e:h.objs.size<=a):H a=none:=by
 cases q:H a with
 | none=>rfl
 | some u=>exact absurd (YU (x.lt q) e) (Z6 _)
theorem bN.kept(x:bN P w H h)(k:∀ b u,h.get? b=some u->h'.get? b=some u):bN P w H h':=λa o e =>
 (x a o e).fh (λb u _ q=>k b u q) (λ_ q=>q) λ_ _ q=>q
theorem bN.laid(x:bN P w H h)(k:∀ b u,h.get? b=some u->h'.get? b=some u)(hp:h.objs.size<=a)(new:bw P w (upd H a o) h' a o):bN P w (upd H a o) h':=λb u e=>by
 have hn:=x.fresh hp;by_cases hb:b=a
 .subst hb;rw[az] at e;cases e;exact new
 .rw[aC hb] at e;exact (x b u e).fh (λc v _ q=>k c v q) (λc q=>by rw[aC (hJ q hn)];exact q) λc xs q=>by rw[aC (hJ q hn)];exact q
end
def Rd(H:Hp)(a:YN)(u:HO):Prop:=H a=some u ∨ ∃ o,H a=some (.aN o u)
theorem Rd.ok(r:Rd H a u)(x:bN P w H h):bw P w H h a u:=by
 rcases r with r|⟨o,r⟩
 .exact x a u r
 .obtain⟨_,q⟩:=x a _ r;exact q
def pV:Option HO->Prop
 | some (.lst _)=>True
 | some (.dK _)=>True
 | some (.dT _)=>True
 | some (.set _ _)=>True
 | some (.ins _ _ _)=>True
 | some (.ext _)=>True
 | _=>False
section
theorem bN.write(ok:bN P w H h)(mu:pV (H x))(he:e=x∨H e=some (.own x))(k:∀ b u,b≠e->h.get? b=some u->h'.get? b=some u)(nT:∃ u,h'.get? e=some u)(new:bw P w (upd H x o') h' x o'):bN P w (upd H x o') h':=λb u q=>by
 have BH:∀ c y,H c=some (.own y)->c≠x:=λc y r z=>by subst z;rw[r] at mu;exact mu
 have Kq:∀ c xs,H c=some (.tup xs)->c≠x:=λc xs r z=>by subst z;rw[r] at mu;exact mu
 by_cases hb:b=x
 .subst hb;rw[az] at q;cases q;exact new
 .rw[aC hb] at q;by_cases iS:b=e
  .have q':H b=some (.own x):=by
    rcases he with z|z
    .exact absurd (iS.trans z) hb
    .rw[iS];exact z
   rw[q] at q';cases q';obtain⟨v,hv⟩:=nT;exact⟨v,by rw[iS];exact hv⟩
  .refine (ok b u q).fh (λc v hc r=>k c v ?_ r) (λc r=>by rw[aC (BH c b r)];exact r) λc xs r=>by rw[aC (Kq c xs r)];exact r
   rcases hc with rfl|hc
   .exact iS
   .rintro rfl;rcases he with z|z
    .exact BH c b hc z
    .rw[hc] at z;cases z;exact hb rfl
end
structure Un(fs ex:List YN)(H H':Hp)(h h':aa4):Prop where
 keep:∀ b o,h.get? b=some o->H b=none->b∉fs->b∉ex->h'.get? b=some o
 slot:∀ b o,h.get? b=some o->H b=none->b∈fs->b∉ex->∃ sl,h'.get? b=some { o with slots:=sl }
 free:∀ b o,h.get? b=some o->H b=none->b∉ex->H' b=none
 there:∀ b o,h.get? b=some o->b∉ex->∃ o',h'.get? b=some o'
 dA:∀ b xs,H b=some (.tup xs)->H' b=some (.tup xs)
 dJ:∀ b o u,H b=some (.aN o u)->H' b=some (.aN o u)
 eh:∀ b ps,H b=some (.tbl ps)->∃ more,H' b=some (.tbl (ps++more))
section
variable{fs X5 ex X6:List YN}{H H1 H2:Hp}{h h1 h2 h':aa4}{a x e:YN}{o:HO}
theorem Un.any(u:Un fs ex H H1 h h1)(q:h.get? b=some ob)(n:H b=none)(hx:b∉ex):∃ sl,h1.get? b=some { ob with slots:=sl }:=by
 by_cases hb:b∈fs
 .exact u.slot b ob q n hb hx
 .exact⟨ob.slots,u.keep b ob q n hb hx⟩
theorem Un.kept(k:∀ b u,h.get? b=some u->h'.get? b=some u):Un fs ex H H h h' :=
 ⟨λb ob q _ _ _=>k b ob q,λb ob q _ _ _=>⟨ob.slots,k b ob q⟩,λ_ _ _ n _=>n,λb ob q _=>⟨ob,k b ob q⟩,λ_ _ q=>q,λ_ _ _ q=>q,λ_ ps q=>⟨#[],by rw[q];simp⟩⟩
theorem Un.refl:Un fs ex H H h h:=Un.kept λ_ _ q=>q
theorem Un.laid(k:∀ b u,h.get? b=some u->h'.get? b=some u)(hp:h.objs.size<=a)(hn:H a=none):Un fs ex H (upd H a o) h h' where
 keep:=λb u q _ _ _=>k b u q
 slot:=λb u q _ _ _=>⟨u.slots,k b u q⟩
 free:=λb u q n _=>by rw[aC (YS (YU (YA q) hp))];exact n
 there:=λb u q _=>⟨u,k b u q⟩
 dA:=λb xs q=>by rw[aC (hJ q hn)];exact q
 dJ:=λb u xs q=>by rw[aC (hJ q hn)];exact q
 eh:=λb ps q=>⟨#[],by rw[aC (hJ q hn),q];simp⟩
theorem Un.write(mu:pV (H x))(he:e=x∨H e=some (.own x))(k:∀ b u,b≠e->h.get? b=some u->h'.get? b=some u)(nT:∃ u,h'.get? e=some u):Un fs ex H (upd H x o) h h':=by
 have hx:∀ b,H b=none->b≠x:=λb n z=>by subst z;rw[n] at mu;exact mu
 have hb:∀ b,H b=none->b≠e:=λb n z=>by
  subst z;rcases he with r|r
  .exact hx b n r
  .rw[n] at r;cases r
 have hm:∀ b u,H b=some u->¬ pV (some u)->b≠x:=λb u q nm z=>by subst z;rw[q] at mu;exact nm mu
 refine⟨λb u q n _ _=>k b u (hb b n) q,λb u q n _ _=>⟨u.slots,k b u (hb b n) q⟩,λb u q n _=>by rw[aC (hx b n)];exact n,λb u q _=>?_,
  λb xs q=>by rw[aC (hm b _ q λz=>z)];exact q,λb u xs q=>by rw[aC (hm b _ q λz=>z)];exact q,λb ps q=>⟨#[],by rw[aC (hm b _ q λz=>z),q];simp⟩⟩
 by_cases iS:b=e
 .subst iS;exact nT
 .exact⟨u,k b u iS q⟩
end
noncomputable def tF(h:aa4)(H:Hp):List YN:=(Y1 h.objs.size).filter λa=>(H a).isSome
noncomputable def jC(h:aa4)(H:Hp):aa4:=ad1 h (tF h H)
theorem Kr(h:aa4)(H:Hp):(jC h H).objs.size=h.objs.size:=PySem.W.hideAll_size _ _
theorem Ks(e:h.get? b=some o)(n:H b=none):(jC h H).get? b=some o :=
 aeD _ e λhm=>by have q:(H b).isSome=true:=(Y8.mp hm).2;rw[n] at q;simp at q
theorem Kt(e:(jC h H).get? b=some o):h.get? b=some o/\H b=none:=by
 have e':h.get? b=some o:=aeO (tF h H) e;refine⟨e',?_⟩;cases q:H b with
 | none=>rfl
 | some x =>
  have hm:b∈tF h H:=Y8.mpr ⟨ZK.mpr (YA e'),by simp[q]⟩;have z:(jC h H).get? b=none:=PySem.W.hideAll_none (tF h H) hm;rw[z] at e;cases e
noncomputable def Ku(g h:aa4)(L:YN):List (YN × Obj):=(Y1 h.objs.size).filterMap λa=>if a=L∨(g.get? a).isSome=true then none else (h.get? a).map λo=>(a,o)
noncomputable def rest(g h:aa4)(L d:YN):List (YN × Obj):=(Ku g h L).filter λp=>decide (p.1≠d)
structure Mod(K:Yu)(mg:Str->Option YB)(base:aa4):Prop where
 kin:K.In base
 glob:base.Ns Y9 mg
 blt:∃ mb,base.Ns agt mb/\∀ x:Str,x ≠ "__name__" -> mb x=Zn x
 nolimit:base.NoLimit
structure Cx where
 prog:Zy
 w:aaa
 K:Yu
 mg:Str->Option YB
 base:aa4
 A:aaq
 N:List Str
 s₀:YK
 H₀:Hp
 env:Env
 outer:List Env
 stack:List Env
 ex:List YN
 fn:Str->Bool
 calm:Bool
 pn:List (YN × Obj)
 xe:YB->YK->Prop
noncomputable def aW(l:List Env):List YN:=l.filterMap (·.frame)
noncomputable abbrev Cx.fs(X:Cx):List YN:=aW X.outer
def tG(sc:aeo)(x:Str):Prop:=sc.names.lookup x=some .local∨sc.names.lookup x=some .cell∨sc.names.lookup x=some .free
def Loc(sc:aeo)(x:Str):Prop:=sc.names.lookup x=some .local∨sc.names.lookup x=some .cell
def Look(env:Env)(h:aa4)(m:Str->Option YB)(x:Str)(u:YB):Prop :=
 (env.kindOf x=some .local/\m x=some u)∨((env.kindOf x=some .cell∨env.kindOf x=some .free)/\∃ c,env.cells.lookup x=some c/\h.IsCell c (some u))
structure Cx.Ok(X:Cx):Prop where
 mod:Mod X.K X.mg X.base
 kind:X.env.scope.kind = .function
 glob:X.env.globals=Y9
 blt:X.env.builtins=agt
 above:X.s₀.heap.objs.size<=X.env.locals
 inj:∀ x y c,X.env.cells.lookup x=some c->X.env.cells.lookup y=some c->x=y
 has:∀ x,(X.env.kindOf x=some .cell∨X.env.kindOf x=some .free)->∃ c,X.env.cells.lookup x=some c
 cab:∀ x c,X.fn x=true->X.env.cells.lookup x=some c->X.s₀.heap.objs.size<=c
 hd:X.calm=true->X.A.handled=none
 frames:X.A.frames=some X.stack
 stk:X.stack=X.outer∨(X.stack=X.env::X.outer/\X.env.frame=some X.env.locals)
 exf:∀ b∈X.ex,b≠X.env.locals/\∀ x c,X.env.cells.lookup x=some c->c≠b
 bs:∀ b o,X.base.get? b=some o->X.s₀.heap.get? b=some o/\X.H₀ b=none
 bsz:X.base.objs.size<=X.s₀.heap.objs.size
 noex:∀ b o,X.base.get? b=some o->b∉X.ex
 exfs:∀ b∈X.ex,b∉X.fs
 eQ:X.s₀.heap.FunFrames X.base X.outer
 frf:∀ b∈X.fs,X.H₀ b=none
structure Inv(X:Cx)(pins:List (YN × Obj))(σ:List (Option V))(H:Hp)(s:YK):Prop where
 ok:X.Ok
 os:s.os=X.s₀.os
 bare:ad2 s.gens
 base:Un X.fs X.ex X.H₀ H X.s₀.heap s.heap
 loc:∃ m,s.heap.Ns X.env.locals m/\∀ (i:Nat) (x:Str) (v:V),X.N[i]?=some x->σ[i]?=some (some v)->tG X.env.scope x->∃ u,RelV v u/\Look X.env s.heap m x u
 cell:∀ x c,X.env.cells.lookup x=some c->∃ v,s.heap.IsCell c v
 free:H X.env.locals=none
 el:∀ x c,X.env.cells.lookup x=some c->H c=none
 pin:∀ p∈X.pn++pins,s.heap.get? p.1=some p.2/\H p.1=none/\p.1≠X.env.locals/\p.1∉X.fs/\∀ v,p.2.data ≠ .cell v
 ao:bN X.prog X.w H s.heap
 len:σ.length=X.N.length
section
variable{X:Cx}{pins:List (YN × Obj)}{σ:List (Option V)}{H H':Hp}{s:YK}{h':aa4}
theorem Cx.Ok.jD(ok:X.Ok){b:YN}{o:Obj}(e:X.base.get? b=some o):b∉X.fs:=λhb=>by have:=(ok.eQ.mem hb).1;rw[e] at this;cases this
theorem Inv.bs(I:Inv X pins σ H s):∀ b o,X.base.get? b=some o->s.heap.get? b=some o/\H b=none:=λb o e =>
 ⟨I.base.keep b o (I.ok.bs b o e).1 (I.ok.bs b o e).2 (I.ok.jD e) (I.ok.noex b o e),I.base.free b o (I.ok.bs b o e).1 (I.ok.bs b o e).2 (I.ok.noex b o e)⟩
theorem Inv.bk(I:Inv X pins σ H s):∀ b o,X.base.get? b=some o->s.heap.get? b=some o:=λb o e=>(I.bs b o e).1
theorem Inv.mod(I:Inv X pins σ H s):Mod X.K X.mg X.base:=I.ok.mod
theorem Inv.bZ(I:Inv X pins σ H s):X.K.In s.heap:=I.ok.mod.kin.keeps I.bk
theorem Inv.lt(I:Inv X pins σ H s):X.env.locals<s.heap.objs.size:=let ⟨_,hn,_⟩:=I.loc;hn.lt
theorem Inv.sz(I:Inv X pins σ H s):X.s₀.heap.objs.size<=s.heap.objs.size:=YE I.ok.above (abL I.lt)
theorem Inv.BI(I:Inv X pins σ H s)(h:s.heap.objs.size<=a):a∉X.fs:=λhb=>by obtain⟨_,o,ho,_⟩:=I.ok.eQ.mem hb;exact absurd (YU (YA ho) (YE I.sz h)) (Z6 _)
theorem Inv.hU(I:Inv X pins σ H s):∀ x c,X.env.cells.lookup x=some c->c≠X.env.locals:=λx c e z=>by obtain⟨v,o,ho,hd⟩:=I.cell x c e;obtain⟨m,⟨o',es,ep,cB,hV,_⟩,_⟩:=I.loc;rw[z,cB] at ho;cases ho;rw[hV] at hd;cases hd
theorem Inv.eQ(I:Inv X pins σ H s):s.heap.FunFrames X.base X.outer:=by
 have all:∀ (l:List Env),(∀ b∈aW l,b∈X.fs)->X.s₀.heap.FunFrames X.base l->s.heap.FunFrames X.base l:=by
  intro l
  induction l with
  | nil=>intro _ _;trivial
  | cons env r ih =>
   intro hs hl;obtain⟨hk,⟨L,o,hf,hn,ho,hd⟩,hr⟩:=hl;have hL:L∈X.fs:=hs L (by unfold aW;rw[ZW,hf];exact abd);obtain⟨sl,e⟩:=I.base.slot L o ho (I.ok.frf L hL) hL λz=>I.ok.exfs L z hL;exact⟨hk,⟨L,_,hf,hn,e,hd⟩,ih (λb hb=>hs b (by unfold aW;rw[ZW,hf];exact Zu _ hb)) hr⟩
 exact all X.outer (λ_ hb=>hb) I.ok.eQ
theorem Inv.stack(I:Inv X pins σ H s):s.heap.FunFrames X.base X.stack:=by
 rcases I.ok.stk with e|⟨e,hf⟩
 .rw[e];exact I.eQ
 .rw[e];obtain⟨m,hn,_⟩:=I.loc;refine .cons (by rw[I.ok.kind];decide) hf hn ?_ I.eQ;exact Heap.get?_none_of_le (YE I.ok.bsz I.ok.above)
theorem Inv.nU(I:Inv X pins σ H s):∀ b∈aW X.stack,b∈X.env.locals::X.fs:=λb hb=>by
 rcases I.ok.stk with e|⟨e,hf⟩
 .rw[e] at hb;exact Zu _ hb
 .rw[e] at hb;unfold aW at hb;rw[ZW,hf] at hb;exact hb
theorem Inv.pW(I:Inv X pins σ H s):∀ b∈aW X.stack,H b=none:=λb hb=>by
 rcases YV.mp (I.nU b hb) with e|hb
 .rw[e];exact I.free
 .obtain⟨_,o,ho,_⟩:=I.ok.eQ.mem hb;exact I.base.free b o ho (I.ok.frf b hb) λz=>I.ok.exfs b z hb
theorem Inv.step{g':Array GenState}{t':Nat}{d':Drawn}{ch:List YN}(I:Inv X pins σ H s)
 (iT:∀ b∈ch,(b∈X.ex∨X.s₀.heap.objs.size<=b)/\b≠X.env.locals/\(∀ x c,X.env.cells.lookup x=some c->c≠b)/\∀ p∈X.pn++pins,p.1≠b)
 (keep:∀ b o,b≠X.env.locals->b∉X.fs->b∉ch->s.heap.get? b=some o->H b=none->h'.get? b=some o)
 (slot:∀ b o,b≠X.env.locals->b∈X.fs->b∉ch->s.heap.get? b=some o->H b=none->∃ sl,h'.get? b=some { o with slots:=sl }) (free:∀ b o,b∉ch->s.heap.get? b=some o->H b=none->H' b=none)
 (there:∀ b o,b∉ch->s.heap.get? b=some o->∃ o',h'.get? b=some o')
 (dA:∀ b xs,H b=some (.tup xs)->H' b=some (.tup xs)) (dJ:∀ b o u,H b=some (.aN o u)->H' b=some (.aN o u)) (eh:∀ b ps,H b=some (.tbl ps)->∃ more,H' b=some (.tbl (ps++more)))
 (ns:∀ m,s.heap.Ns X.env.locals m->h'.Ns X.env.locals m) (ao:bN X.prog X.w H' h') (hg:ad2 g') :
 Inv X pins σ H' { s with heap:=h',gens:=g',drawn:=d',toks:=t' }:=by
 have nV:∀ b o,X.s₀.heap.get? b=some o->b≠X.env.locals:=λb o e=>YS (YU (YA e) I.ok.above);have tH:∀ b o,X.s₀.heap.get? b=some o->b∉X.ex->b∉ch:=λb o e hx hb=>by
  rcases (iT b hb).1 with z|z
  .exact hx z
  .exact absurd (YU (YA e) z) (Z6 _)
 have cellK:∀ x c,X.env.cells.lookup x=some c->∀ v,s.heap.IsCell c v->h'.IsCell c v:=λx c e v ⟨o,ho,hd⟩=>by
  have kE:c∉ch:=λz=>(iT c z).2.2.1 x c e rfl;by_cases hc:c∈X.fs
  .obtain⟨sl,q⟩:=slot c o (I.hU x c e) hc kE ho (I.el x c e);exact⟨_,q,hd⟩
  .exact⟨o,keep c o (I.hU x c e) hc kE ho (I.el x c e),hd⟩
 refine⟨I.ok,I.os,hg,⟨λb o e n hb hx=>?_,λb o e n hb hx=>?_,λb o e n hx=>?_,λb o e hx=>?_,λb xs e=>dA b xs (I.base.dA b xs e),λb o xs e=>dJ b o xs (I.base.dJ b o xs e),λb ps e=>?_⟩,?_,λx c e=>?_,?_,λx c e=>?_,λp hp=>?_,ao,I.len⟩
 .exact keep b o (nV b o e) hb (tH b o e hx) (I.base.keep b o e n hb hx) (I.base.free b o e n hx)
 .obtain⟨sl,e1⟩:=I.base.slot b o e n hb hx;obtain⟨eo,e2⟩:=slot b _ (nV b o e) hb (tH b o e hx) e1 (I.base.free b o e n hx);exact⟨eo,e2⟩
 .obtain⟨o',e1⟩:=I.base.there b o e hx;exact free b o' (tH b o e hx) e1 (I.base.free b o e n hx)
 .obtain⟨o',e1⟩:=I.base.there b o e hx;exact there b o' (tH b o e hx) e1
 .obtain⟨m1,e1⟩:=I.base.eh b ps e;obtain⟨m2,e2⟩:=eh b _ e1;exact⟨m1++m2,by rw[e2,aeP]⟩
 .obtain⟨m,hn,hl⟩:=I.loc;refine⟨m,ns m hn,λi x v e1 e2 e3=>?_⟩;obtain⟨u,r,l⟩:=hl i x v e1 e2 e3;refine⟨u,r,?_⟩;rcases l with l|⟨k,c,e,z⟩
  .exact .inl l
  .exact .inr ⟨k,c,e,cellK x c e _ z⟩
 .obtain⟨v,z⟩:=I.cell x c e;exact⟨v,cellK x c e v z⟩
 .obtain⟨m,⟨o,_,_,ho,_⟩,_⟩:=I.loc;exact free _ o (λz=>(iT _ z).2.1 rfl) ho I.free
 .obtain⟨v,o,ho,hd⟩:=I.cell x c e;exact free c o (λz=>(iT c z).2.2.1 x c e rfl) ho (I.el x c e)
 .obtain⟨e,n,ne,nf,d⟩:=I.pin p hp;have kE:p.1∉ch:=λz=>(iT p.1 z).2.2.2 p hp rfl;exact⟨keep p.1 p.2 ne nf kE e n,free p.1 p.2 kE e n,ne,nf,d⟩
theorem Inv.un(I:Inv X pins σ H s)(u:Un X.fs [] H H' s.heap h')(ao:bN X.prog X.w H' h'):Inv X pins σ H' { s with heap:=h',toks:=t' }:=by
 obtain⟨m,⟨o,es,ep,ho,r⟩,_⟩:=id I.loc;obtain⟨sl,hL⟩:=u.any ho I.free (by simp);exact I.step (g':=s.gens) (d':=s.drawn) (ch:=[]) (λ_ z=>nomatch z) (λb o _ hb _ e n=>u.keep b o e n hb (by simp)) (λb o _ hb _ e n=>u.slot b o e n hb (by simp)) (λb o _ e n=>u.free b o e n (by simp)) (λb o _ e=>u.there b o e (by simp)) u.dA u.dJ u.eh (λm' hm=>by
  obtain⟨o',es',pX,cB,r'⟩:=hm;rw[ho] at cB;cases cB;exact⟨_,es',pX,hL,r'⟩) ao I.bare
theorem Inv.call(I:Inv X pins σ H s)(u:Un (aW X.stack) ch H H' s.heap h')(ao:bN X.prog X.w H' h')(hg:ad2 g')(iT:∀ b∈ch,(b∈X.ex∨X.s₀.heap.objs.size<=b)/\b≠X.env.locals/\(∀ x c,X.env.cells.lookup x=some c->c≠b)/\∀ p∈X.pn++pins,p.1≠b) :
 Inv X pins σ H' { s with heap:=h',gens:=g',drawn:=d',toks:=t' }:=by
 obtain⟨m,⟨o,es,ep,ho,r⟩,_⟩:=id I.loc;obtain⟨sl,hL⟩:=u.any ho I.free λz=>(iT _ z).2.1 rfl;exact I.step (ch:=ch) iT (λb o hL hb hc e n=>u.keep b o e n (λz=>(YV.mp (I.nU b z)).elim hL hb) hc) (λb o _ _ hc e n=>u.any e n hc) (λb o hc e n=>u.free b o e n hc) (λb o hc e=>u.there b o e hc) u.dA u.dJ u.eh (λm' hm=>by
  obtain⟨o',es',pX,cB,r'⟩:=hm;rw[ho] at cB;cases cB;exact⟨_,es',pX,hL,r'⟩) ao hg
theorem Inv.turned(I:Inv X pins σ H s)(k:∀ b o,b≠it->s.heap.get? b=some o->h'.get? b=some o)(hn:H it=none)(hL:it≠X.env.locals)(h1:it∈X.ex∨X.s₀.heap.objs.size<=it)(h2:∀ x c,X.env.cells.lookup x=some c->c≠it)(h3:∀ p∈X.pn++pins,p.1≠it):Inv X pins σ H { s with heap:=h',toks:=t' }:=by
 have BJ:∀ b u,H b=some u->b≠it:=λb u e z=>by rw[z,hn] at e;cases e
 refine I.step (g':=s.gens) (d':=s.drawn) (ch:=[it]) (λb hb=>?_) (λb o _ _ hc e _=>k b o (λz=>hc (by simp[z])) e) (λb o _ _ hc e _=>⟨o.slots,k b o (λz=>hc (by simp[z])) e⟩) (λ_ _ _ _ n=>n)
  (λb o hc e=>⟨o,k b o (λz=>hc (by simp[z])) e⟩) (λ_ _ e=>e) (λ_ _ _ e=>e) (λb ps e=>⟨#[],by rw[e];simp⟩) (λm hm=>?_) (λb u e=>?_) I.bare
 .have e:b=it:=by simpa using hb
  subst e;exact⟨h1,hL,h2,h3⟩
 .obtain⟨o,es,ep,ho,r⟩:=hm;exact⟨o,es,ep,k _ o (Zt hL) ho,r⟩
 .refine (I.ao b u e).fh (λc v hc q=>k c v ?_ q) (λ_ q=>q) λ_ _ q=>q;rcases hc with z|z
  .rw[z];exact BJ b u e
  .exact BJ c _ z
theorem Inv.tok(I:Inv X pins σ H s)(t:Nat):Inv X pins σ H { s with toks:=t }:=I.un (h':=s.heap) (t':=t) Un.refl I.ao
theorem Inv.kept(I:Inv X pins σ H s)(k:∀ b u,s.heap.get? b=some u->h'.get? b=some u):Inv X pins σ H { s with heap:=h',toks:=t' }:=I.un (Un.kept k) (I.ao.kept k)
theorem Inv.laid(I:Inv X pins σ H s)(k:∀ b u,s.heap.get? b=some u->h'.get? b=some u)(hp:s.heap.objs.size<=a)(new:bw X.prog X.w (upd H a o) h' a o) :
 Inv X pins σ (upd H a o) { s with heap:=h',toks:=t' }:=I.un (Un.laid k hp (I.ao.fresh hp)) (I.ao.laid k hp new)
theorem Inv.write(I:Inv X pins σ H s)(mu:pV (H x))(he:e=x∨H e=some (.own x))(k:∀ b u,b≠e->s.heap.get? b=some u->h'.get? b=some u)(nT:∃ u,h'.get? e=some u)(new:bw X.prog X.w (upd H x o) h' x o):Inv X pins σ (upd H x o) { s with heap:=h',toks:=t' }:=I.un (Un.write mu he k nT) (I.ao.write mu he k nT new)
theorem Inv.weak(I:Inv X pins σ H s)(hl:σ'.length=σ.length)(w:∀ (i:Nat) v,σ'[i]?=some (some v)->σ[i]?=some (some v)):Inv X pins σ' H s :=
 ⟨I.ok,I.os,I.bare,I.base,let ⟨m,hn,pY⟩:=I.loc;⟨m,hn,λi x v e1 e2 e3=>pY i x v e1 (w i v e2) e3⟩,I.cell,I.free,I.el,I.pin,I.ao,hl.trans I.len⟩
theorem Inv.mf(I:Inv X pins σ H s)(h:∀ p∈wm,s.heap.get? p.1=some p.2/\H p.1=none/\p.1≠X.env.locals/\p.1∉X.fs/\∀ v,p.2.data ≠ .cell v):Inv X wm σ H s :=
 ⟨I.ok,I.os,I.bare,I.base,I.loc,I.cell,I.free,I.el,λp hp=>(YX.mp hp).elim (λz=>I.pin p (Zl _ z)) (h p),I.ao,I.len⟩
theorem wq{N:List Str}(hN:N.Nodup){i j:Nat}{x:Str}(a:N[i]?=some x)(b:N[j]?=some x):i=j:=by obtain⟨h1,e1⟩:=YC.mp a;obtain⟨h2,e2⟩:=YC.mp b;exact (List.getElem_inj hN).mp (e1.trans e2.symm)
theorem Kv(I:Inv X pins σ H s)(hN:X.N.Nodup)(hi:X.N[i]?=some x)(hx:Loc X.env.scope x)(r:RelV v u)(h:∀ s',Inv X pins (σ.set i (some v)) H s'->(∃ a,Heap.SameBut a s.heap s'.heap/\(a=X.env.locals∨X.env.cells.lookup x=some a))->Q () s')(hf:X.fn x=true∨X.env.scope.names.lookup x=some .local:=by first|exact .inl rfl|exact .inr rfl|assumption):YT M A (storeName X.env x u) Q E s:=by
 obtain⟨m,hn,hl⟩:=id I.loc;have wt:(X.env.scope.kind == .class || (X.env.scope.kind == .module && X.env.locals != X.env.globals))=false:=by rw[I.ok.kind];rfl
 have BK:i<σ.length:=by rw[I.len];exact (YC.mp hi).1
 have hU:=I.hU;have tracked:∀ {a:YN} {h':aa4},(∃ o,s.heap.get? a=some o/\H a=none)->Heap.SameBut a s.heap h'->bN X.prog X.w H h':=λ{a h'} ha hs b ob e=>by
  obtain⟨_,_,hfree⟩:=ha;refine (I.ao b ob e).fh (λc w' hc q=>(hs.2 c ?_).trans q) (λ_ q=>q) λ_ _ q=>q;rintro rfl;rcases hc with rfl|hc
  .rw[hfree] at e;cases e
  .rw[hfree] at hc;cases hc
 rcases hx with hk|hk
 .refine wpAny_storeName_local hk hn (λh' iU hs=>?_) wt;obtain⟨oL,_,_,BL,_⟩:=id hn;refine h _ ⟨I.ok,I.os,I.bare,⟨λb o e n hb hx=>?_,λb o e n hb hx=>?_,I.base.free,λb o e hx=>?_,I.base.dA,I.base.dJ,I.base.eh⟩,⟨_,iU,λj y v' e1 e2 e3=>?_⟩,λy c e=>?_,I.free,I.el,λp hp=>?_,tracked ⟨oL,BL,I.free⟩ hs,by simpa using I.len⟩ ⟨_,hs,.inl rfl⟩
  .exact (hs.2 b (YS (YU (YA e) I.ok.above))).trans (I.base.keep b o e n hb hx)
  .obtain⟨sl,e1⟩:=I.base.slot b o e n hb hx;exact⟨sl,(hs.2 b (YS (YU (YA e) I.ok.above))).trans e1⟩
  .obtain⟨o',e1⟩:=I.base.there b o e hx;exact⟨o',(hs.2 b (YS (YU (YA e) I.ok.above))).trans e1⟩
  .by_cases hj:j=i
   .subst hj;rw[hi] at e1;cases e1;rw[abX BK] at e2;cases e2;exact⟨u,r,.inl ⟨hk,by simp⟩⟩
   .rw[acq (Zt hj)] at e2;obtain⟨u',r',q⟩:=hl j y v' e1 e2 e3;refine⟨u',r',?_⟩;rcases q with ⟨k,e⟩|⟨k,c,e,z⟩
    .refine .inl ⟨k,?_⟩;have:y≠x:=λe=>hj (wq hN e1 (e ▸ hi));simp[this,e]
    .exact .inr ⟨k,c,e,z.sameBut hs (hU y c e)⟩
  .obtain⟨w',z⟩:=I.cell y c e;exact⟨w',z.sameBut hs (hU y c e)⟩
  .obtain⟨e,n,ne,nf,d⟩:=I.pin p hp;exact⟨(hs.2 p.1 ne).trans e,n,ne,nf,d⟩
 .have wu:X.fn x=true:=by
   rcases hf with z|z
   .exact z
   .rw[z] at hk;cases hk
  obtain⟨c,hc⟩:=I.ok.has x (.inl hk);obtain⟨w',z⟩:=I.cell x c hc;refine wpAny_storeName_cell I.ok.kind hk hc z (λh' jE hs=>?_);obtain⟨oc,hoc,hocd⟩:=id z;refine h { s with heap:=h' } ⟨I.ok,I.os,I.bare,⟨λb o e n hb hx=>?_,λb o e n hb hx=>?_,I.base.free,λb o e hx=>?_,I.base.dA,I.base.dJ,I.base.eh⟩,⟨m,hn.sameBut hs (Zt (hU x c hc)),λj y v' e1 e2 e3=>?_⟩,λy c' e=>?_,I.free,I.el,λp hp=>?_,tracked ⟨oc,hoc,I.el x c hc⟩ hs,by simpa using I.len⟩ ⟨c,hs,.inr hc⟩
  .exact (hs.2 b (YS (YU (YA e) (I.ok.cab x c wu hc)))).trans (I.base.keep b o e n hb hx)
  .obtain⟨sl,e1⟩:=I.base.slot b o e n hb hx;exact⟨sl,(hs.2 b (YS (YU (YA e) (I.ok.cab x c wu hc)))).trans e1⟩
  .obtain⟨o',e1⟩:=I.base.there b o e hx;exact⟨o',(hs.2 b (YS (YU (YA e) (I.ok.cab x c wu hc)))).trans e1⟩
  .by_cases hj:j=i
   .subst hj;rw[hi] at e1;cases e1;rw[abX BK] at e2;cases e2;exact⟨u,r,.inr ⟨.inl hk,c,hc,jE⟩⟩
   .rw[acq (Zt hj)] at e2;obtain⟨u',r',q⟩:=hl j y v' e1 e2 e3;refine⟨u',r',?_⟩;rcases q with q|⟨k,c',e,z'⟩
    .exact .inl q
    .refine .inr ⟨k,c',e,z'.sameBut hs ?_⟩;rintro rfl;exact hj (wq hN e1 (I.ok.inj _ _ _ e hc ▸ hi))
  .by_cases tI:c'=c
   .subst tI;exact⟨_,jE⟩
   .obtain⟨w2,z2⟩:=I.cell y c' e;exact⟨w2,z2.sameBut hs tI⟩
  .obtain⟨e,n,ne,nf,d⟩:=I.pin p hp;refine⟨(hs.2 p.1 ?_).trans e,n,ne,nf,d⟩;intro q;rw[q,hoc] at e;have q':oc=p.2:=Option.some.inj e;exact d w' (by rw[<- q'];exact hocd)
theorem wx(I:Inv X pins σ H s)(hN:X.N.Nodup)(hi:X.N[i]?=some x)(hx:Loc X.env.scope x)(r:RelV v u)(h:∀ s',Inv X pins (σ.set i (some v)) H s'->Q () s')(hf:X.fn x=true∨X.env.scope.names.lookup x=some .local:=by first|exact .inl rfl|exact .inr rfl|assumption):YT M A (storeName X.env x u) Q E s :=
 Kv I hN hi hx r (λs' I' _=>h s' I') hf
theorem Inv.wy(I:Inv X pins σ H s)(ho:s'.os=s.os)(u:Un (aW X.stack) ch H H' s.heap s'.heap)(ao:bN X.prog X.w H' s'.heap)(hg:ad2 s'.gens)(iT:∀ b∈ch,(b∈X.ex∨X.s₀.heap.objs.size<=b)/\b≠X.env.locals/\(∀ x c,X.env.cells.lookup x=some c->c≠b)/\∀ p∈X.pn++pins,p.1≠b):Inv X pins σ H' s':=by obtain⟨h',g',d',t',o'⟩:=s';have e:o'=s.os:=ho;subst e;exact I.call (g':=g') (t':=t') (d':=d') u ao hg iT
end
abbrev XK:=YB->Option YN->Hp->Prop
abbrev St:=List (Option V)
abbrev VK:=V->Hp->Prop
abbrev TE:=St->Hp->VK->Prop
abbrev TT:=St->Hp->(Bool->Hp->Prop)->Prop
abbrev TA:=St->Hp->(List V->Hp->Prop)->Prop
structure Ends where
 nx:St->Hp->Prop
 rt:VK
 bk:St->Hp->Prop:=λ_ _=>False
 ct:St->Hp->Prop:=λ_ _=>False
abbrev TS:=Ends->St->Hp->Prop
def EP(X:Cx)(pins:List (YN × Obj))(σ:St)(Q:VK)(u:YB)(s':YK):Prop:=∃ v H',Inv X pins σ H' s'/\RelV v u/\Q v H'
def TP(X:Cx)(pins:List (YN × Obj))(σ:St)(Q:Bool->Hp->Prop)(b:Bool)(s':YK):Prop:=∃ H',Inv X pins σ H' s'/\Q b H'
def AP(X:Cx)(pins:List (YN × Obj))(σ:St)(Q:List V->Hp->Prop)(us:List YB)(s':YK):Prop:=∃ vs H',Inv X pins σ H' s'/\Vals vs us/\Q vs H'
def SP(X:Cx)(pins:List (YN × Obj))(D:Ends)(f:Flow)(s':YK):Prop :=
 match f with
 | .next=>∃ σ' H',Inv X pins σ' H' s'/\D.nx σ' H'
 | .brk=>∃ σ' H',Inv X pins σ' H' s'/\D.bk σ' H'
 | .cont=>∃ σ' H',Inv X pins σ' H' s'/\D.ct σ' H'
 | .ret u=>∃ v σ' H',Inv X pins σ' H' s'/\RelV v u/\D.rt v H'
def PE(X:Cx)(e:ach)(t:TE):Prop :=
 ∀ (pins:List (YN × Obj)) (s:YK) (σ:St) (H:Hp) (Q:VK),Inv X pins σ H s->t σ H Q->YT (model X.prog X.w) X.A (eval e X.env) (EP X pins σ Q) X.xe s
def PT(X:Cx)(e:ach)(t:TT):Prop :=
 ∀ (pins:List (YN × Obj)) (s:YK) (σ:St) (H:Hp) (Q:Bool->Hp->Prop),Inv X pins σ H s->t σ H Q->YT (model X.prog X.w) X.A (agV e X.env (eval e X.env)) (TP X pins σ Q) X.xe s
def PW(X:Cx)(e:ach)(t:TT):Prop :=
 ∀ (whole:Sem YB) (pins:List (YN × Obj)) (s:YK) (σ:St) (H:Hp) (Q:Bool->Hp->Prop),Inv X pins σ H s->t σ H Q->YT (model X.prog X.w) X.A (agV e X.env whole) (TP X pins σ Q) X.xe s
theorem PW.pt(h:PW X e t):PT X e t:=h _
def PA(X:Cx)(es:List ach)(t:TA):Prop :=
 ∀ (pos:Pos) (pins:List (YN × Obj)) (s:YK) (σ:St) (H:Hp) (Q:List V->Hp->Prop),Inv X pins σ H s->t σ H Q->YT (model X.prog X.w) X.A (spliced (aaC pos (Y2 es X.env))) (AP X pins σ Q) X.xe s
def PS(X:Cx)(st:aaA)(t:TS):Prop :=
 ∀ (pins:List (YN × Obj)) (s:YK) (σ:St) (H:Hp) (D:Ends),Inv X pins σ H s->t D σ H->YT (model X.prog X.w) X.A (exec st X.env) (SP X pins D) X.xe s
def aR(X:Cx)(st:List aaA)(t:TS):Prop :=
 ∀ (pins:List (YN × Obj)) (s:YK) (σ:St) (H:Hp) (D:Ends),Inv X pins σ H s->t D σ H->YT (model X.prog X.w) X.A (execs st X.env) (SP X pins D) X.xe s
theorem aD(h:YT M A t Q E s)(hQ:∀ a s,Q a s->Q' a s):YT M A t Q' E s:=Zz h hQ λ_ _ x=>x
section
variable{X:Cx}
def wz(i:Nat):TE:=λσ H Q=>∃ v,σ[i]?=some (some v)/\Q v H
def tC(v:V):TE:=λ_ H Q=>Q v H
theorem Kw(hN:X.N[i]?=some x)(hv:tG X.env.scope x)(hd:(x == ("__debug__" : Str))=false:=by decide)(fi:(x == ("__classdict__" : Str))=false:=by decide):PE X (.Name x pos) (wz i):=by
 intro pins s σ H Q I h;obtain⟨v,e,h⟩:=h;obtain⟨m,hn,hl⟩:=I.loc;obtain⟨u,r,l⟩:=hl i x v hN e hv;have fin:EP X pins σ Q u s:=⟨v,H,I,r,h⟩
 rcases l with ⟨hk,hm⟩|⟨hk,c,hc,hcell⟩
 .exact agu (wpAny_loadName_local I.ok.kind hk hn hm fin) hd
 .rcases hk with hk|hk
  .exact agu (wpAny_loadName_cell I.ok.kind hk hc hcell fin) hd
  .exact agu (wpAny_loadName_free I.ok.kind hk hc hcell fin fi) hd
theorem af:PE X (.Constant (.int i) j pos) (tC (.int i)):=λ_ _ _ H _ I h=>wpAny_Constant_int ⟨.int i,H,I.tok _,⟨_,rfl⟩,h⟩
theorem fj:PE X (.Constant (.bool b) j pos) (tC (.bl b)):=λ_ _ _ H _ I h=>Constant_bool ⟨.bl b,H,I,rfl,h⟩
theorem bJ:PE X (.Constant .none j pos) (tC .non):=λ_ _ _ H _ I h=>aeQ ⟨.non,H,I,rfl,h⟩
theorem bo:PE X (.Constant (.str x) j pos) (tC (.str x)):=λ_ _ _ H _ I h=>Calls.Constant_str ⟨.str x,H,I.tok _,⟨_,rfl⟩,h⟩
def Gl(X:Cx)(x:Str):Prop:=X.env.kindOf x=some .globalImplicit
theorem nW(I:Inv X pins σ H s)(hg:Gl X x)(hm:X.mg x=some u)(h:Q u s)(hd:(x == ("__debug__" : Str))=false:=by decide):YT (model X.prog X.w) X.A (eval (.Name x pos) X.env) Q E s :=
 acO I.ok.kind hg (Calls.loadGlobal_global (by rw[I.ok.glob];exact I.mod.glob.keeps I.bk) hm h) hd
theorem dR(I:Inv X pins σ H s)(hg:Gl X x)(hm:X.mg x=none)(hv:Zn x=some u)(h:Q u s)(hn:x ≠ "__name__" := by decide)(hd:(x == ("__debug__" : Str))=false:=by decide):YT (model X.prog X.w) X.A (eval (.Name x pos) X.env) Q E s:=by obtain⟨mb,h1,h2⟩:=I.mod.blt;exact acO I.ok.kind hg (Calls.loadGlobal_builtin (by rw[I.ok.glob];exact I.mod.glob.keeps I.bk) hm (by rw[I.ok.blt];exact h1.keeps I.bk) ((h2 x hn).trans hv) h) hd
theorem wA(hg:Gl X x)(hm:X.mg x=some u)(r:RelV v u)(hd:(x == ("__debug__" : Str))=false:=by decide):PE X (.Name x pos) (tC v) :=
 λ_ _ _ H _ I h=>nW I hg hm ⟨v,H,I,r,h⟩ hd
theorem mh(hg:Gl X x)(hm:X.mg x=none)(hv:Zn x=some u)(r:RelV v u)(hn:x ≠ "__name__" := by decide)(hd:(x == ("__debug__" : Str))=false:=by decide):PE X (.Name x pos) (tC v) :=
 λ_ _ _ H _ I h=>dR I hg hm hv ⟨v,H,I,r,h⟩ hn hd
variable{a b:ach}{ta tb:TE}{pos:Pos}
def PC(X:Cx)(op:CmpOp)(a b:ach)(t:TE):Prop :=
 ∀ (pins:List (YN × Obj)) (s:YK) (σ:St) (H:Hp) (Q:VK),Inv X pins σ H s->t σ H Q ->
  YT (model X.prog X.w) X.A (eval a X.env) (λv s₁=>YT (model X.prog X.w) X.A (eval b X.env) (λu s₂=>YT (model X.prog X.w) X.A (Z5 op v u) (EP X pins σ Q) X.xe s₂) X.xe s₁) X.xe s
theorem BM(b:ach)(h:op ≠ .In)(h2:op ≠ .NotIn):aaQ op b=false:=by
 have e1:(op == CmpOp.In)=false:=by cases op<;>first|rfl|exact absurd rfl h
 have e2:(op == CmpOp.NotIn)=false:=by cases op<;>first|rfl|exact absurd rfl h2
 cases b<;>simp[aaQ,e1,e2]
def BN(ta:TE):TE:=λσ H Q=>ta σ H λx H1=>Q (.bl (decide (x = .non))) H1
def BO(ta:TE):TE:=λσ H Q=>ta σ H λx H1=>Q (.bl (!decide (x = .non))) H1
theorem RelV.BP(r:RelV x v):(v == Value.none)=decide (x = .non):=by
 cases x with
 | non=>cases r;rfl
 | bl _=>cases r;rfl
 | int _=>obtain⟨t,rfl⟩:=r;rfl
 | str _=>obtain⟨t,rfl⟩:=r;rfl
 | byt _=>obtain⟨t,rfl⟩:=r;rfl
 | flt _=>obtain⟨t,rfl⟩:=r;rfl
 | ref _=>cases r;rfl
 | ty _=>cases r;rfl
theorem pZ(ha:PE X a ta):PC X .Is a (.Constant .none j pos') (BN ta):=by intro pins s σ H Q I h;refine aD (ha pins s σ H _ I h) λv s1 zq=>?_;obtain⟨x,H1,I1,r1,q1⟩:=zq;exact aeQ (is_none_gen ⟨.bl _,H1,I1,by rw[r1.BP];rfl,q1⟩)
theorem mi(ha:PE X a ta):PC X .IsNot a (.Constant .none j pos') (BO ta):=by intro pins s σ H Q I h;refine aD (ha pins s σ H _ I h) λv s1 zq=>?_;obtain⟨x,H1,I1,r1,q1⟩:=zq;exact aeQ (isnot_none_gen ⟨.bl _,H1,I1,by rw[r1.BP];rfl,q1⟩)
def tB(t:TE):TT:=λσ H Q=>t σ H λx H1=>∃ c,x = .bl c/\Q c H1
theorem iV(h:PC X op a b t)(h1:aaQ op b=false:=by first|exact BM _ (by decide) (by decide)|rfl):PE X (.Compare a [op] [b] pos) t:=λpins s σ H Q I hw=>wpAny_Compare1 (h pins s σ H Q I hw) h1
theorem tJ(h:PC X op a b t)(h1:aaQ op b=false:=by first|exact BM _ (by decide) (by decide)|rfl):PT X (.Compare a [op] [b] pos) (tB t):=by intro pins s σ H Q I hw;refine ad3 (aD (h pins s σ H _ I hw) λv s1 h1=>aD h1 λu s2 h2=>aD h2 λc s3 zq=>?_) h1;obtain⟨x,H1,I1,r1,q1⟩:=zq;obtain⟨d,rfl,q⟩:=q1;cases r1;exact ZH ⟨H1,I1,q⟩
theorem Kx(h:PE X e t)(he:∀ whole,agV e X.env whole=(do let v <- whole;agE e.pos;holding [v] (truthy v)):=by intro _;rfl):PT X e (tB t):=by intro pins s σ H Q I hw;refine isTrue_plain (aD (h pins s σ H _ I hw) λv s1 zq=>?_) (he _);obtain⟨x,H1,I1,r1,q1⟩:=zq;obtain⟨d,rfl,q⟩:=q1;cases r1;exact ZH ⟨H1,I1,q⟩
variable{tA tK:TT}{rest:List ach}
def BQ(t u:TT):TT:=λσ H Q=>t σ H λc H1=>if c=true then u σ H1 Q else Q false H1
def BR(t u:TT):TT:=λσ H Q=>t σ H λc H1=>if c=true then Q true H1 else u σ H1 Q
def BS(t:TT):TT:=λσ H Q=>t σ H λc H1=>Q (!c) H1
theorem kF(ha:PT X a tA):PW X (.BoolOp .And [a] pos) tA:=by
 intro wh pins s σ H Q I h;refine isTrue_and (aD (ha pins s σ H Q I h) λc s1 e=>?_);cases c with
 | true=>exact isTrue_and_nil e
 | false=>exact e
theorem eB(ha:PT X a tA):PW X (.BoolOp .Or [a] pos) tA:=by
 intro wh pins s σ H Q I h;refine isTrue_or (aD (ha pins s σ H Q I h) λc s1 e=>?_);cases c with
 | false=>exact isTrue_or_nil e
 | true=>exact e
theorem jF(ha:PT X a tA)(hb:PW X (.BoolOp .And (b::rest) pos) tK):PW X (.BoolOp .And (a::b::rest) pos) (BQ tA tK):=by
 intro wh pins s σ H Q I h;refine isTrue_and (aD (ha pins s σ H _ I h) λc s1 zq=>?_);obtain⟨H1,I1,q1⟩:=zq;cases c with
 | true=>exact hb wh pins s1 σ H1 Q I1 q1
 | false=>exact⟨H1,I1,q1⟩
theorem cI(ha:PT X a tA)(hb:PW X (.BoolOp .Or (b::rest) pos) tK):PW X (.BoolOp .Or (a::b::rest) pos) (BR tA tK):=by
 intro wh pins s σ H Q I h;refine isTrue_or (aD (ha pins s σ H _ I h) λc s1 zq=>?_);obtain⟨H1,I1,q1⟩:=zq;cases c with
 | true=>exact⟨H1,I1,q1⟩
 | false=>exact hb wh pins s1 σ H1 Q I1 q1
theorem cU(ha:PT X a tA):PT X (.UnaryOp .Not a pos) (BS tA):=by intro pins s σ H Q I h;exact isTrue_not (ha pins s σ H (λc H1=>Q (!c) H1) I h)
def BU(ta tb:TE):TE:=λσ H Q=>ta σ H λx H1=>∃ c,x = .bl c/\if c=true then tb σ H1 Q else Q (.bl false) H1
def BV(ta tb:TE):TE:=λσ H Q=>ta σ H λx H1=>∃ c,x = .bl c/\if c=true then Q (.bl true) H1 else tb σ H1 Q
def BW(ta:TE):TE:=λσ H Q=>ta σ H λx H1=>∃ c,x = .bl c/\Q (.bl (!c)) H1
theorem eS(h:PE X a t):PE X (.BoolOp op [a] pos) t:=λpins s σ H Q I hw=>BoolOp_one (h pins s σ H Q I hw)
theorem Ky(ha:PE X a ta)(hb:PE X (.BoolOp .And (b::rest) pos) tb):PE X (.BoolOp .And (a::b::rest) pos) (BU ta tb):=by
 intro pins s σ H Q I h;refine BoolOp_and (aD (ha pins s σ H _ I h) λv s1 zq=>?_);obtain⟨x,H1,I1,r1,q1⟩:=zq;obtain⟨c,rfl,q1⟩:=q1;cases r1;refine ZH ?_;cases c with
 | true=>exact hb pins s1 σ H1 Q I1 q1
 | false=>exact⟨.bl false,H1,I1,rfl,q1⟩
theorem Kz(ha:PE X a ta)(hb:PE X (.BoolOp .Or (b::rest) pos) tb):PE X (.BoolOp .Or (a::b::rest) pos) (BV ta tb):=by
 intro pins s σ H Q I h;refine BoolOp_or (aD (ha pins s σ H _ I h) λv s1 zq=>?_);obtain⟨x,H1,I1,r1,q1⟩:=zq;obtain⟨c,rfl,q1⟩:=q1;cases r1;refine ZH ?_;cases c with
 | false=>exact hb pins s1 σ H1 Q I1 q1
 | true=>exact⟨.bl true,H1,I1,rfl,q1⟩
theorem KA(ha:PE X a ta):PE X (.UnaryOp .Not a pos) (BW ta):=by intro pins s σ H Q I h;refine UnaryOp_ (aD (ha pins s σ H _ I h) λv s1 zq=>?_);obtain⟨x,H1,I1,r1,q1⟩:=zq;obtain⟨c,rfl,q1⟩:=q1;cases r1;exact not_of (ZH ⟨.bl (!c),H1,I1,rfl,q1⟩)
def BX(t:TT)(ta tb:TE):TE:=λσ H Q=>t σ H λc H1=>if c=true then ta σ H1 Q else tb σ H1 Q
theorem jG(hc:PT X c tA)(ha:PE X a ta)(hb:PE X b tb):PE X (.IfExp c a b pos) (BX tA ta tb):=by
 intro pins s σ H Q I h;refine wpAny_IfExp (aD (hc pins s σ H _ I h) λd s1 zq=>?_);obtain⟨H1,I1,q1⟩:=zq;cases d with
 | true=>exact ha pins s1 σ H1 Q I1 q1
 | false=>exact hb pins s1 σ H1 Q I1 q1
end
def ah(K:Yu)(H:Hp)(a:YN)(xs:List V):Prop :=
 Rd H a (.lst xs) ∨
  ∃ (o:Obj) (ai:Array YB) (n:Nat),K.lookup a=some o/\o.cls = .type "list" /\ o.dict=none/\o.data = .seq ai n/\ai.size<=Y0/\Vals xs ai.toList
def aj(K:Yu)(H:Hp)(a:YN)(xs:List V):Prop :=
 Rd H a (.tup xs) ∨
  ∃ (o:Obj) (ai:Array YB) (n:Nat),K.lookup a=some o/\o.cls = .type "tuple" /\ o.data = .seq ai n/\ai.size<=Y0/\Vals xs ai.toList
noncomputable def KC:YB->Option V
 | .none=>some .non
 | .bool b=>some (.bl b)
 | .int i _=>some (.int i)
 | .str x _=>some (.str x)
 | .bytes b _=>some (.byt b)
 | .float b _=>some (.flt b)
 | .ref a=>some (.ref a)
 | .type n=>some (.ty n)
 | _=>none
theorem RelV.abs(r:RelV x u):KC u=some x:=by
 cases x with
 | non=>cases r;rfl
 | bl _=>cases r;rfl
 | int _=>obtain⟨t,rfl⟩:=r;rfl
 | str _=>obtain⟨t,rfl⟩:=r;rfl
 | byt _=>obtain⟨t,rfl⟩:=r;rfl
 | flt _=>obtain⟨t,rfl⟩:=r;rfl
 | ref _=>cases r;rfl
 | ty _=>cases r;rfl
theorem RelV.inj(r:RelV x u)(q:RelV y u):x=y:=Option.some.inj (r.abs.symm.trans q.abs)
theorem Vals.inj:∀ {xs ys:List V} {us:List YB},Vals xs us->Vals ys us->xs=ys
 | _,_,_,.nil,.nil=>rfl
 | _,_,_,.cons r t,.cons r' t'=>by rw[r.inj r',Vals.inj t t']
section
theorem ah.of{K:Yu}(h:H a=some (.lst xs)):ah K H a xs:=.inl (.inl h)
theorem aj.of{K:Yu}(h:H a=some (.tup xs)):aj K H a xs:=.inl (.inl h)
theorem Inv.list(I:Inv X pins σ H s)(h:ah X.K H a xs):∃ ai:List YB,Vals xs ai/\PlainL s.heap a ai.toArray/\xs.length<=Y0:=by
 rcases h with h|⟨o,ai,n,hk,hc,hd,hs,hz,r⟩
 .obtain⟨z,ai,n,r,e⟩:=h.ok I.ao;exact⟨ai,r,⟨_,n,e,rfl,rfl,rfl⟩,z⟩
 .refine⟨ai.toList,r,⟨o,n,I.bZ a o hk,hc,hd,by simpa using hs⟩,?_⟩;have e:=r.length;simp only[Z7] at e;omega
theorem Inv.tuple(I:Inv X pins σ H s)(h:aj X.K H a xs):∃ ai:List YB,Vals xs ai/\IsTup s.heap a ai.toArray/\xs.length<=Y0:=by
 rcases h with h|⟨o,ai,n,hk,hc,hs,hz,r⟩
 .obtain⟨z,ai,r,p⟩:=h.ok I.ao;exact⟨ai,r,p,z⟩
 .refine⟨ai.toList,r,⟨o,I.bZ a o hk,hc,n,by simpa using hs⟩,?_⟩;have e:=r.length;simp only[Z7] at e;omega
theorem Inv.p8(I:Inv X pins σ H s)(h:ah X.K H a xs)(h':ah X.K H a ys):xs=ys:=by
 obtain⟨ai,r,⟨o,n,e,_,_,d⟩,_⟩:=I.list h;obtain⟨its',r',⟨o',n',e',_,_,d'⟩,_⟩:=I.list h';rw[e] at e';cases e';rw[d] at d';injection d' with d1 _;have:ai=its':=by simpa using congrArg afw d1
 subst this;exact r.inj r'
theorem Inv.KD(I:Inv X pins σ H s)(h:aj X.K H a xs)(h':aj X.K H a ys):xs=ys:=by
 obtain⟨ai,r,⟨o,e,_,n,d⟩,_⟩:=I.tuple h;obtain⟨its',r',⟨o',e',_,n',d'⟩,_⟩:=I.tuple h';rw[e] at e';cases e';rw[d] at d';injection d' with d1 _;have:ai=its':=by simpa using congrArg afw d1
 subst this;exact r.inj r'
end
noncomputable abbrev Cx.iW(X:Cx)(E:YB->YK->Prop):Cx:={ X with xe:=E }
noncomputable abbrev Cx.nX(X:Cx):Cx:=X.iW λ_ _=>False
theorem Cx.Ok.iW{X:Cx}(ok:X.Ok)(E:YB->YK->Prop):(X.iW E).Ok :=
 ⟨ok.mod,ok.kind,ok.glob,ok.blt,ok.above,ok.inj,ok.has,ok.cab,ok.hd,ok.frames,ok.stk,ok.exf,ok.bs,ok.bsz,ok.noex,ok.exfs,ok.eQ,ok.frf⟩
theorem Cx.Ok.kG{X:Cx}{E:YB->YK->Prop}(ok:(X.iW E).Ok):X.Ok :=
 ⟨ok.mod,ok.kind,ok.glob,ok.blt,ok.above,ok.inj,ok.has,ok.cab,ok.hd,ok.frames,ok.stk,ok.exf,ok.bs,ok.bsz,ok.noex,ok.exfs,ok.eQ,ok.frf⟩
section
theorem Inv.iW(I:Inv X pins σ H s)(E:YB->YK->Prop):Inv (X.iW E) pins σ H s:=⟨I.ok.iW E,I.os,I.bare,I.base,I.loc,I.cell,I.free,I.el,I.pin,I.ao,I.len⟩
theorem Inv.kG(I:Inv (X.iW E) pins σ H s):Inv X pins σ H s:=⟨I.ok.kG,I.os,I.bare,I.base,I.loc,I.cell,I.free,I.el,I.pin,I.ao,I.len⟩
theorem SP.kG(h:SP (X.iW E) pins D f s'):SP X pins D f s':=by
 cases f with
 | next=>obtain⟨σ',H',I,q⟩:=h;exact⟨σ',H',I.kG,q⟩
 | brk=>obtain⟨σ',H',I,q⟩:=h;exact⟨σ',H',I.kG,q⟩
 | cont=>obtain⟨σ',H',I,q⟩:=h;exact⟨σ',H',I.kG,q⟩
 | ret u=>obtain⟨v,σ',H',I,r,q⟩:=h;exact⟨v,σ',H',I.kG,r,q⟩
theorem aR.nX{st:List aaA}{t:TS}(h:aR X.nX st t):aR X st t:=λpins s σ H D I hw =>
 Zz (h pins s σ H D (I.iW _) hw) (λ_ _ q=>q.kG) λ_ _ z=>aaO z
end
section
variable{X:Cx}{st:aaA}{rest:List aaA}{t u:TS}{e:ach}{te:TE}{pos:Pos}
def BY:TS:=λD σ H=>D.nx σ H
def tL(t u:TS):TS:=λD σ H=>t { D with nx:=u D } σ H
theorem aK:aR X [] BY:=λ_ _ σ H _ I h=>acv ⟨σ,H,I,h⟩
theorem ar(h1:PS X st t)(h2:aR X rest u):aR X (st::rest) (tL t u):=by
 intro pins s σ H D I h;refine afE (aD (h1 pins s σ H { D with nx:=u D } I h) λf s1 q=>?_);cases f with
 | next =>
  obtain⟨σ',H',I',q⟩:=q;exact h2 pins s1 σ' H' D I' q
 | ret v=>exact q
 | brk=>exact q
 | cont=>exact q
theorem au(h1:PS X st t):aR X [st] t:=by
 intro pins s σ H D I h;refine afE (aD (h1 pins s σ H D I h) λf s1 q=>?_);cases f with
 | next=>exact acv q
 | ret v=>exact q
 | brk=>exact q
 | cont=>exact q
theorem Inv.quiet(I:Inv X pins σ H s):interactive X.env=false:=by simp[interactive,I.ok.kind]
def BZ(te:TE):TS:=λD σ H=>te σ H λ_ H1=>D.nx σ H1
theorem fo(he:PE X e te)(hs:acw e none pos.line X.env=pure false:=by rfl):PS X (.Expr e pos) (BZ te):=by intro pins s σ H D I h;exact wpAny_Expr_any (aD (he pins s σ H _ I h) λv s1 ⟨x,H1,I1,r1,q1⟩=>⟨σ,H1,I1,q1⟩) I.quiet hs
def B0(te:TE):TS:=λD σ H=>te σ H D.rt
theorem aA(he:PE X e te):PS X (.Return (some e) pos) (B0 te):=by intro pins s σ H D I h;exact wpAny_Return_some (aD (he pins s σ H _ I h) λv s1 ⟨x,H1,I1,r1,q1⟩=>⟨x,σ,H1,I1,r1,q1⟩)
def B2(c:TT)(t u:TS):TS:=λD σ H=>c σ H λb H1=>if b=true then t D σ H1 else u D σ H1
theorem aJ(hc:PT X c tc)(ha:aR X a t)(hb:aR X b u):PS X (.If c a b pos) (B2 tc t u):=by
 intro pins s σ H D I h;refine wpAny_If (aD (hc pins s σ H _ I h) λd s1 zq=>?_);obtain⟨H1,I1,q1⟩:=zq;cases d with
 | true=>exact ha pins s1 σ H1 D I1 q1
 | false=>exact hb pins s1 σ H1 D I1 q1
end
abbrev TG:=V->St->Hp->(St->Hp->Prop)->Prop
abbrev qb:=List V->St->Hp->(St->Hp->Prop)->Prop
def PG(X:Cx)(target:ach)(t:TG):Prop :=
 ∀ (pins:List (YN × Obj)) (s:YK) (σ:St) (H:Hp) (v:V) (u:YB) (Q:St->Hp->Prop),Inv X pins σ H s->RelV v u->t v σ H Q ->
  YT (model X.prog X.w) X.A (assign target X.env u) (λ_ s'=>∃ σ' H',Inv X pins σ' H' s'/\Q σ' H') X.xe s
def tM(X:Cx)(ts:List ach)(t:qb):Prop :=
 ∀ (pins:List (YN × Obj)) (s:YK) (σ:St) (H:Hp) (vs:List V) (us:List YB) (Q:St->Hp->Prop),Inv X pins σ H s->Vals vs us->t vs σ H Q ->
  YT (model X.prog X.w) X.A (assignInOrder ((adf ts X.env).map (·.2)) us) (λ_ s'=>∃ σ' H',Inv X pins σ' H' s'/\Q σ' H') X.xe s
abbrev B3:=V->V->V->Hp->(Hp->Prop)->Prop
def B4(X:Cx)(t:B3):Prop :=
 ∀ (pins:List (YN × Obj)) (s:YK) (σ:St) (H:Hp) (o i v:V) (ov iv u:YB) (Q:Hp->Prop),Inv X pins σ H s->RelV o ov->RelV i iv->RelV v u->t o i v H Q ->
  YT (model X.prog X.w) X.A (setItem ov iv u) (λ_ s'=>∃ H',Inv X pins σ H' s'/\Q H') X.xe s
section
def cJ(i:Nat):TG:=λv σ H Q=>Q (σ.set i (some v)) H
theorem iX(hN:X.N.Nodup)(hi:X.N[i]?=some x)(hx:Loc X.env.scope x)(hf:X.fn x=true∨X.env.scope.names.lookup x=some .local:=by first|exact .inl rfl|exact .inr rfl|assumption):PG X (.Name x pos) (cJ i):=by intro pins s σ H v u Q I r h;exact wpAny_assign_Name (wx I hN hi hx r (λs' I'=>⟨_,H,I',h⟩) hf)
def kH:qb:=λvs σ H Q=>vs=[]/\Q σ H
def dM(t:TG)(u:qb):qb:=λvs σ H Q=>∃ v r,vs=v::r/\t v σ H λσ' H'=>u r σ' H' Q
theorem kI:tM X [] kH:=by intro pins s σ H vs us Q I r h;obtain⟨e,h⟩:=h;subst e;cases r;exact assignInOrder_nil ⟨σ,H,I,h⟩
theorem dS(h1:PG X e t)(h2:tM X es u)(hs:(adf (e::es) X.env).map (·.2)=assign e X.env::(adf es X.env).map (·.2):=by rfl):tM X (e::es) (dM t u):=by
 intro pins s σ H vs us Q I r h;obtain⟨v,vr,e1,h⟩:=h;subst e1;cases r with
 | cons r rr =>
  rw[hs];refine assignInOrder_cons (aD (h1 pins s σ H _ _ _ I r h) λ_ s1 zq=>?_);obtain⟨σ1,H1,I1,q1⟩:=zq;exact h2 pins s1 σ1 H1 _ _ Q I1 rr q1
def mj(K:Yu)(n:Nat)(t:qb):TG:=λv σ H Q=>∃ a xs,v = .ref a/\aj K H a xs/\xs.length=n/\t xs σ H Q
theorem kJ(hc:X.calm=true)(h:tM X es t)(hn:(adf es X.env).length=n:=by rfl)(cc:(adf es X.env).findIdx? (·.1)=none:=by rfl):PG X (.Tuple es k pos) (mj X.K n t):=by intro pins s σ H v u Q I r hw;obtain⟨a,xs,e1,hq,hl,hw⟩:=hw;subst e1;cases r;obtain⟨ai,rv,ht,hz⟩:=I.tuple hq;refine assign_Tuple_tuple (I.ok.hd hc) ht (by simp[hn,<- hl,rv.length]) cc λh' hx=>?_;have I1:Inv X pins σ H { s with heap:=h' }:=I.kept (t':=s.toks) λb o e=>hx b o (YS (YA e)) e;exact h pins _ σ H xs _ Q I1 (by simpa using rv) hw
def B5(to ti:TE)(t:B3):TG:=λv σ H Q=>to σ H λo H1=>ti σ H1 λi H2=>t o i v H2 λH3=>Q σ H3
theorem tN(ho:PE X o to)(hi:PE X i ti)(hs:B4 X t)(ha:∀ v,assign (.Subscript o i pos) X.env v=(do
 let ov <- holding [v] (eval o X.env);let iv <- holding [v,ov] (eval i X.env)
 agE pos
 holding [v,ov,iv] (setItem ov iv v)
 release [v,ov,iv] []):=by intro _;rfl):PG X (.Subscript o i pos) (B5 to ti t):=by
 intro pins s σ H v u Q I r h;rw[ha];refine Yt (ZN (aD (ho pins s σ H _ I h) λov s1 zq=>?_));obtain⟨x,H1,I1,r1,q1⟩:=zq;refine Yt (ZN (aD (hi pins s1 σ H1 _ I1 q1) λiv s2 zq=>?_));obtain⟨y,H2,I2,r2,q2⟩:=zq;refine Yt (aeR (Yt (ZN (aD (hs pins s2 σ H2 x y v ov iv u _ I2 r1 r2 r q2) λ_ s3 zq=>?_))));obtain⟨H3,I3,q3⟩:=zq;exact wpAny_release ⟨σ,H3,I3,q3⟩
def tO(te:TE)(g:TG):TS:=λD σ H=>te σ H λx H1=>g x σ H1 D.nx
theorem tP(he:PE X e te)(hg:PG X tg g)(hs:swapsWithSole [tg] e pos.line X.env=pure false:=by rfl)(hw:swappedStores [tg] e X.env=pure none:=by rfl)(h1:(adf [tg] X.env).map (·.2)=[assign tg X.env]:=by rfl):PS X (.Assign [tg] e pos) (tO te g):=by intro pins s σ H D I h;refine wpAny_Assign_stores (aD (he pins s σ H _ I h) λv s1 zq=>?_) hs hw;obtain⟨x,H1,I1,r1,q1⟩:=zq;rw[h1];exact aD (hg pins s1 σ H1 x v _ I1 r1 q1) λ_ s2 q=>q
theorem ia(hN:X.N.Nodup)(hi:X.N[i]?=some x)(hx:Loc X.env.scope x)(he:PE X e te)(hs:acw e (some (.Name x pos')) pos.line X.env=pure false:=by rfl)(hf:X.fn x=true∨X.env.scope.names.lookup x=some .local:=by first|exact .inl rfl|exact .inr rfl|assumption) :
 PS X (.Assign [.Name x pos'] e pos) (tO te (cJ i)):=by
 intro pins s σ H D I h;refine wpAny_Assign_Name (aD (he pins s σ H _ I h) λv s1 zq=>?_) hs;obtain⟨y,H1,I1,r1,q1⟩:=zq;exact wx I1 hN hi hx r1 (λs2 I2=>⟨_,H1,I2,q1⟩) hf
end
structure It where
 go:Nat->Hp->Prop
 yld:Nat->Hp->V->Hp->Prop
 stop:Nat->Hp->Prop
def cV(X:Cx)(pins:List (YN × Obj))(H:Hp)(b:YN):Prop :=
 H b=none/\b≠X.env.locals/\b∉X.fs/\(b∈X.ex∨X.s₀.heap.objs.size<=b)/\(∀ x c,X.env.cells.lookup x=some c->c≠b)/\∀ p∈X.pn++pins,p.1≠b
theorem Inv.fq(I:Inv X pins σ H s)(hb:s.heap.objs.size<=b)(hn:H' b=none):cV X pins H' b:=by
 refine⟨hn,ZM (YU I.lt hb),I.BI hb,.inr (YE I.sz hb),λx c e z=>?_,λp hp z=>?_⟩
 .obtain⟨v,q⟩:=I.cell x c e;exact absurd (YU q.lt (by rw[z];exact hb)) (Z6 _)
 .exact absurd (YU (YA (I.pin p hp).1) (by rw[z];exact hb)) (Z6 _)
structure Turn(P:Zy)(w:aaa)(K:Yu)(tg:ach)(J:It)(fp:List YN)(it:YN)(tn:Nat->aa4->Prop):Prop where
 mem:it∈fp
 obj:∀ i h,tn i h->∀ b∈fp,∃ o,h.get? b=some o/\∀ v,o.data ≠ .cell v
 keep:∀ i h h',tn i h->(∀ b∈fp,∀ o,h.get? b=some o->h'.get? b=some o)->tn i h'
 item:∀ (X:Cx),X.prog=P->X.w=w->X.K=K->X.calm=true->∀ (i:Nat) (pins:List (YN × Obj)) (s:YK) (σ:St) (H:Hp) (E:YB->YK->Prop),Inv X pins σ H s->(∀ b∈fp,cV X pins H b)->tn i s.heap->J.go i H ->
  YT (model P w) X.A (abe (.ref it)) (λr s1=>∃ u,r=some u /\
   YT (model P w) X.A (acx tg (.ref it) u) (λ_ s2=>∃ x H',Inv X pins σ H' s2/\RelV x u/\J.yld i H x H'/\tn (i+1) s2.heap/\∀ b∈fp,H' b=none) E s1) E s
 done:∀ (X:Cx),X.prog=P->X.w=w->X.K=K->X.calm=true->∀ (i:Nat) (pins:List (YN × Obj)) (s:YK) (σ:St) (H:Hp) (E:YB->YK->Prop),Inv X pins σ H s->(∀ b∈fp,cV X pins H b)->tn i s.heap->J.stop i H ->
  YT (model P w) X.A (abe (.ref it)) (λr s1=>r=none/\Inv X pins σ H s1) E s
 self:∀ (A:aaq) (i:Nat) (s:YK) (Q:YB->YK->Prop) (E:YB->YK->Prop),tn i s.heap->Q (.ref it) s->YT (model P w) A (agv (.ref it)) Q E s
abbrev TI:=St->Hp->(It->Hp->Prop)->Prop
def wB(X:Cx)(pins:List (YN × Obj))(σ:St)(tg:ach)(R:It->Hp->Prop)(tQ:YB)(s2:YK):Prop :=
 ∃ (it:YN) (fp:List YN) (tn:Nat->aa4->Prop) (J:It) (H':Hp),tQ = .ref it/\Inv X pins σ H' s2/\Turn X.prog X.w X.K tg J fp it tn/\tn 0 s2.heap/\(∀ b∈fp,cV X pins H' b)/\R J H'
def PI(X:Cx)(tg iter:ach)(wi:TI):Prop :=
 ∀ (pins:List (YN × Obj)) (s:YK) (σ:St) (H:Hp) (R:It->Hp->Prop),Inv X pins σ H s->wi σ H R ->
  YT (model X.prog X.w) X.A (eval iter X.env) (λv s1=>YT (model X.prog X.w) X.A (agv v) (wB X pins σ tg R) X.xe s1) X.xe s
theorem mn(ho:s.heap.get? it=some o)(hc:o.cls = .type n)(hd:o.data = .fields vs)(hn:["enumerate","zip","dict_itemiterator","dict_reverseitemiterator","odict_iterator","itertools.zip_longest","itertools.pairwise"].contains n=false)(hQ:Q () s):YT M A (acx tg (.ref it) u) Q E s:=by
 unfold acx;cases tg<;>first
  | exact Yz hQ
  | (cases u<;>first
      | exact Yz hQ
      | (refine Yt (wpAny_load ho ?_)
         rw[hc,hd];show YT M A (if (["enumerate","zip","dict_itemiterator","dict_reverseitemiterator","odict_iterator","itertools.zip_longest","itertools.pairwise"].contains n && vs[0]? == some (abY _))=true then _ else _) Q E s;rw[if_neg (by intro h;rw[hn,acY] at h;cases h)];exact Yz hQ))
noncomputable def iY(K:Yu)(a:YN):It :=
 ⟨λi H=>∃ xs x,ah K H a xs/\xs[i]?=some x,λi H x H'=>H'=H/\∀ xs,ah K H a xs->xs[i]?=some x,λi H=>∃ xs,ah K H a xs/\xs.length<=i⟩
noncomputable def qc(K:Yu)(a:YN):It :=
 ⟨λi H=>∃ xs x,aj K H a xs/\xs[i]?=some x,λi H x H'=>H'=H/\∀ xs,aj K H a xs->xs[i]?=some x,λi H=>∃ xs,aj K H a xs/\xs.length<=i⟩
noncomputable def eU(lo:Int)(n:Nat):It:=⟨λi _=>i<n,λi H x H'=>H'=H/\x = .int (lo+i),λi _=>n<=i⟩
theorem KG{P:Zy}{w:aaa}{K:Yu}{tg:ach}(a it:YN):Turn P w K tg (iY K a) [it] it (λi h=>h.IsListIter it a i) where
 mem:=by simp
 obj:=λi h st b hb=>by
  have e:b=it:=by simpa using hb
  subst e;obtain⟨o,e,c,d⟩:=st;exact⟨o,e,λv z=>by rw[d] at z;cases z⟩
 keep:=λi h h' st k=>st.at λo e=>k it (by simp) o e
 item:=by intro X hP hw hK hc i pins s σ H E I hf st hg;subst hP hw hK;obtain⟨xs,x,hq,hx⟩:=hg;obtain⟨ai,rv,p,hz⟩:=I.list hq;obtain⟨u,hu,ru⟩:=rv.get hx;obtain⟨f0,f1,f2,f3,f4,f5⟩:=hf it (by simp);refine wpAny_pyNext_list_item st p.isList (x:=u) (by simpa using hu) λh' b0 sb=>?_;have I1:Inv X pins σ H { s with heap:=h' }:=I.turned (t':=s.toks) (λb o hb e=>(sb.2 b hb).trans e) f0 f1 f3 f4 f5;obtain⟨o,e,c,d⟩:=id b0;exact⟨u,rfl,mn (s:={ s with heap:=h' }) e c d (by decide) ⟨x,H,I1,ru,⟨rfl,λys hy=>by rw[I.p8 hy hq];exact hx⟩,b0,λb hb=>(hf b hb).1⟩⟩
 done:=by
  intro X hP hw hK hc i pins s σ H E I hf st hg;subst hP hw hK;obtain⟨xs,hq,hx⟩:=hg;obtain⟨ai,rv,p,hz⟩:=I.list hq;obtain⟨f0,f1,f2,f3,f4,f5⟩:=hf it (by simp);have hl:=rv.length;exact wpAny_pyNext_list_end (I.ok.hd hc) st p.isList (by simp;omega) λh' eb=>⟨rfl,I.turned (t':=s.toks) (λb o hb e=>eb b o hb e) f0 f1 f3 f4 f5⟩
 self:=λ_ _ _ _ _ st h=>wpAny_pyIter_listiter st h
theorem KH{P:Zy}{w:aaa}{K:Yu}{tg:ach}(a it:YN):Turn P w K tg (qc K a) [it] it (λi h=>h.IsTupleIter it a i) where
 mem:=by simp
 obj:=λi h st b hb=>by
  have e:b=it:=by simpa using hb
  subst e;obtain⟨o,e,c,d⟩:=st;exact⟨o,e,λv z=>by rw[d] at z;cases z⟩
 keep:=λi h h' st k=>st.at λo e=>k it (by simp) o e
 item:=by intro X hP hw hK hc i pins s σ H E I hf st hg;subst hP hw hK;obtain⟨xs,x,hq,hx⟩:=hg;obtain⟨ai,rv,p,hz⟩:=I.tuple hq;obtain⟨u,hu,ru⟩:=rv.get hx;obtain⟨f0,f1,f2,f3,f4,f5⟩:=hf it (by simp);refine wpAny_pyNext_tuple_item st (show s.heap.IsTuple a ai.toArray from p) (x:=u) (by simpa using hu) λh' b0 sb=>?_;have I1:Inv X pins σ H { s with heap:=h' }:=I.turned (t':=s.toks) (λb o hb e=>(sb.2 b hb).trans e) f0 f1 f3 f4 f5;obtain⟨o,e,c,d⟩:=id b0;exact⟨u,rfl,mn (s:={ s with heap:=h' }) e c d (by decide) ⟨x,H,I1,ru,⟨rfl,λys hy=>by rw[I.KD hy hq];exact hx⟩,b0,λb hb=>(hf b hb).1⟩⟩
 done:=by
  intro X hP hw hK hc i pins s σ H E I hf st hg;subst hP hw hK;obtain⟨xs,hq,hx⟩:=hg;obtain⟨ai,rv,p,hz⟩:=I.tuple hq;obtain⟨f0,f1,f2,f3,f4,f5⟩:=hf it (by simp);have hl:=rv.length;exact wpAny_pyNext_tuple_end (I.ok.hd hc) st (show s.heap.IsTuple a ai.toArray from p) (by simp;omega) λh' eb=>⟨rfl,I.turned (t':=s.toks) (λb o hb e=>eb b o hb e) f0 f1 f3 f4 f5⟩
 self:=λ_ _ _ _ _ st h=>wpAny_pyIter_tupleiter st h
theorem B6{P:Zy}{w:aaa}{K:Yu}{tg:ach}(it:YN)(lo:Int)(n:Nat):Turn P w K tg (eU lo n) [it] it (λi h=>adv h it (lo+(i:Nat) * 1) ((n:Int)-(i:Nat)) 1) where
 mem:=by simp
 obj:=λi h st b hb=>by
  have e:b=it:=by simpa using hb
  subst e;exact⟨_,st,λv z=>by
   have z':adw _=adg v:=z;cases z'⟩
 keep:=λi h h' st k=>k it (by simp) _ st
 item:=by intro X hP hw hK hc i pins s σ H E I hf st hg;subst hP hw hK;obtain⟨f0,f1,f2,f3,f4,f5⟩:=hf it (by simp);have W:=Walks.range (prog:=X.prog) (w:=X.w) (I.ok.hd hc) it lo 1 n;refine W.item i s _ _ hg st λv h' tk hv b0 kk=>?_;obtain⟨t,rfl⟩:=hv;have I1:Inv X pins σ H { s with heap:=h',toks:=tk }:=I.turned (λb o hb e=>kk b o (by simpa using hb) e) f0 f1 f3 f4 f5;refine⟨_,rfl,mn (s:={ s with heap:=h',toks:=tk }) (n := "range_iterator") b0 rfl rfl (by decide) ⟨.int (lo+i),H,I1,⟨t,?_⟩,⟨rfl,rfl⟩,b0,λb hb=>(hf b hb).1⟩⟩;rw[ag9]
 done:=by
  intro X hP hw hK hc i pins s σ H E I hf st hg;subst hP hw hK;obtain⟨f0,f1,f2,f3,f4,f5⟩:=hf it (by simp);exact adP (I.ok.hd hc) st (by have:n<=i:=hg;omega) λh' eb=>⟨rfl,I.turned (t':=s.toks) (λb o hb e=>eb b o hb e) f0 f1 f3 f4 f5⟩
 self:=λ_ _ _ _ _ st h=>adQ st h
section
def wC(K:Yu)(tl:TE):TI:=λσ H R=>tl σ H λx H1=>∃ a,x = .ref a/\(∃ xs,ah K H1 a xs)/\R (iY K a) H1
def wD(K:Yu)(tl:TE):TI:=λσ H R=>tl σ H λx H1=>∃ a,x = .ref a/\(∃ xs,aj K H1 a xs)/\R (qc K a) H1
theorem cC(hl:PE X l tl):PI X tg l (wC X.K tl):=by
 intro pins s σ H R I h;refine aD (hl pins s σ H _ I h) λv s1 zq=>?_;obtain⟨x,H1,I1,r1,q1⟩:=zq;obtain⟨a,e,⟨xs,hq⟩,q⟩:=q1;subst e;cases r1;obtain⟨ai,rv,p,hz⟩:=I1.list hq;refine ab4 p.isList ?_;refine⟨s1.heap.objs.size,[s1.heap.objs.size],_,_,H1,rfl,I1.kept (t':=s1.toks) λb o e=>Yy _ e,KG a _,⟨_,YH _ rfl,rfl,rfl⟩,λb hb=>?_,q⟩;have e:b=s1.heap.objs.size:=by simpa using hb
 subst e;exact I1.fq (YD _) (I1.ao.fresh (YD _))
theorem tR(hl:PE X l tl):PI X tg l (wD X.K tl):=by
 intro pins s σ H R I h;refine aD (hl pins s σ H _ I h) λv s1 zq=>?_;obtain⟨x,H1,I1,r1,q1⟩:=zq;obtain⟨a,e,⟨xs,hq⟩,q⟩:=q1;subst e;cases r1;obtain⟨ai,rv,p,hz⟩:=I1.tuple hq;refine aeS (show s1.heap.IsTuple a ai.toArray from p) ?_;refine⟨s1.heap.objs.size,[s1.heap.objs.size],_,_,H1,rfl,I1.kept (t':=s1.toks) λb o e=>Yy _ e,KH a _,⟨_,YH _ rfl,rfl,rfl⟩,λb hb=>?_,q⟩;have e:b=s1.heap.objs.size:=by simpa using hb
 subst e;exact I1.fq (YD _) (I1.ao.fresh (YD _))
theorem B7{pins:List (YN × Obj)}{σ:St}{H:Hp}{s:YK}{R:It->Hp->Prop}{E:YB->YK->Prop}{lo hi:Int}{t u v:Tok}{tk:Nat}(I:Inv X pins σ H s)(h1 : -(2 ^ 62)<=lo)(h2:lo<2 ^ 62)(h3 : -(2 ^ 62)<=hi)(h4:hi<2 ^ 62)
 (q:R (eU lo (hi-lo).toNat) H):YT (model X.prog X.w) X.A (agv (.ref s.heap.objs.size)) (wB X pins σ tg R) E { s with heap:=s.heap.push { cls:=.type "range",data:=.fields #[.int lo t,.int hi u,.int 1 v] },toks:=tk }:=by
 refine acR (IsRange.new ..) (small_one h1 h2 h3 h4) ?_;have I1:Inv X pins σ H { s with heap:=s.heap.push { cls:=.type "range",data:=.fields #[.int lo t,.int hi u,.int 1 v] },toks:=tk }:=I.kept λb o e=>Yy _ e;refine⟨(s.heap.push { cls:=.type "range",data:=.fields #[.int lo t,.int hi u,.int 1 v] }).objs.size,[(s.heap.push { cls:=.type "range",data:=.fields #[.int lo t,.int hi u,.int 1 v] }).objs.size],_,_,H,rfl,
  I1.kept (t':=tk) λb o e=>Yy _ e,B6 _ lo (hi-lo).toNat,?_,λb hb=>?_,q⟩
 .have e1:lo+((0:Nat):Int) * 1=lo:=by simp
  have e2:(((hi-lo).toNat:Nat):Int)-((0:Nat):Int)=Zw lo hi 1:=by rw[rangeSize_one];split<;>omega
  show adv _ _ (lo+((0:Nat):Int) * 1) ((((hi-lo).toNat:Nat):Int)-((0:Nat):Int)) 1;rw[e1,e2];exact YH _ rfl
 .have e:b=(s.heap.push { cls:=.type "range",data:=.fields #[.int lo t,.int hi u,.int 1 v] }).objs.size:=by simpa using hb
  subst e;exact I1.fq (YD _) (I1.ao.fresh (YD _))
def wF(ta:TA):TI:=λσ H R=>ta σ H λvs H1=>∃ j:Int,vs=[.int j]/\-(2 ^ 62)<=j/\j<2 ^ 62/\R (eU 0 j.toNat) H1
def wG(ta:TA):TI:=λσ H R=>ta σ H λvs H1=>∃ i j:Int,vs=[.int i,.int j]/\(-(2 ^ 62)<=i/\i<2 ^ 62/\-(2 ^ 62)<=j/\j<2 ^ 62)/\R (eU i (j-i).toNat) H1
theorem ft(hg:Gl X "range")(hm:X.mg "range" = none)(ha:PA X [a] ta)(hs:Y2 [a] X.env=[(false,eval a X.env)]:=by rfl):PI X tg (.Call (.Name "range" p) [a] [] pos) (wF ta):=by
 intro pins s σ H R I h;refine agW (dR I hg hm afb (Za (aD (ha pos pins s σ H _ I h) λus s1 zq=>?_) hs rfl));obtain⟨vs,H1,I1,r1,q1⟩:=zq;obtain⟨j,e,q1,q2,q⟩:=q1;subst e;cases r1 with
 | cons r rr =>
  cases rr;obtain⟨t,rfl⟩:=r;exact call_range_1 (B7 I1 (by omega) (by omega) q1 q2 (by simpa using q))
theorem wH(hg:Gl X "range")(hm:X.mg "range" = none)(ha:PA X [a,b] ta)(hs:Y2 [a,b] X.env=[(false,eval a X.env),(false,eval b X.env)]:=by rfl)(b5:Y2 [b] X.env=[(false,eval b X.env)]:=by rfl) :
 PI X tg (.Call (.Name "range" p) [a,b] [] pos) (wG ta):=by
 intro pins s σ H R I h;refine agW (dR I hg hm afb (Za (aD (ha pos pins s σ H _ I h) λus s1 ⟨vs,H1,I1,r1,q1⟩=>?_) (by rw[hs,b5]) (by rw[b5];rfl)));obtain⟨i,j,e,⟨q1,q2,q3,q4⟩,q⟩:=q1;subst e;cases r1 with
 | cons r rr =>
  cases rr with
  | cons r' rr =>
   cases rr;obtain⟨t,rfl⟩:=r;obtain⟨t',rfl⟩:=r';exact call_range_2 (B7 I1 q1 q2 q3 q4 q)
def ic(wi:TI)(g:TG)(tb:TS):TS:=λD σ H=>wi σ H λJ H1=>∃ W:Nat->Nat->St->Hp->Prop,(∃ m,W 0 m σ H1)/\∀ i m σ H,W i m σ H ->
 (J.stop i H/\D.nx σ H)∨(J.go i H/\∃ N:St->Hp->Prop,(∀ σ' H',N σ' H'->∃ m',m'<m/\W (i+1) m' σ' H')/\∀ x H',J.yld i H x H'->g x σ H' λσ2 H2=>tb { D with nx:=N,ct:=N,bk:=D.nx } σ2 H2)
noncomputable def qd(fp:List YN)(h:aa4):List (YN × Obj):=fp.filterMap λb=>(h.get? b).map λo=>(b,o)
theorem tS(hb:b∈fp)(e:h.get? b=some o):(b,o)∈qd fp h:=aau.mpr ⟨b,hb,by rw[e];rfl⟩
theorem KI(hp:p∈qd fp h):p.1∈fp/\h.get? p.1=some p.2:=by
 obtain⟨b,hb,e⟩:=aau.mp hp;cases q:h.get? b with
 | none=>rw[q] at e;cases e
 | some o =>
  rw[q] at e;have e':(b,o)=p:=Option.some.inj e;subst e';exact⟨hb,q⟩
theorem Inv.pinned(I:Inv X pins σ H s)(hf:∀ b∈fp,cV X pins H b)(ho:∀ b∈fp,∃ o,s.heap.get? b=some o/\∀ v,o.data ≠ .cell v):Inv X (pins++qd fp s.heap) σ H s :=
 I.mf λp hp=>(YX.mp hp).elim (λz=>I.pin p (YL _ z)) λz=>by obtain⟨hb,e⟩:=KI z;obtain⟨f0,f1,f2,_⟩:=hf p.1 hb;obtain⟨o,e',d⟩:=ho p.1 hb;rw[e] at e';cases e';exact⟨e,f0,f1,f2,d⟩
theorem Inv.mq(I:Inv X (pins++pl) σ H s):Inv X pins σ H s:=I.mf λp hp=>I.pin p (YL _ (Zl _ hp))
theorem cW(hp:PassesOwn (model X.prog X.w) X.A X.env X.xe)(hc:X.calm=true)(hi:PI X tg iter wi)(hg:PG X tg g)(hb:aR X body tb)(hs:∀ x,aaY iter X.env x=pure x:=by intro _;rfl):PS X (.For tg iter body [] pos) (ic wi g tb):=by
 intro pins s σ H D I h;refine wpAny_For (aD (hi pins s σ H _ I h) λv s1 h1=>aD h1 λtQ s2 h2=>?_) hs;obtain⟨it,fp,tn,J,H2,e,I2,T,gj,f2,W,⟨m0,w0⟩,turn⟩:=h2;subst e;have wI:∀ {H':Hp},(∀ b∈fp,H' b=none)->∀ b∈fp,cV X pins H' b:=λhn b hb=>⟨hn b hb,(f2 b hb).2⟩
 refine codeAny_forLoop_any (λn s'=>∃ i σ' H',Inv X pins σ' H' s'/\tn i s'.heap/\(∀ b∈fp,H' b=none)/\W i n σ' H') ?_ m0 ⟨0,σ,H2,I2,gj,λb hb=>(f2 b hb).1,w0⟩;rintro n s3 ⟨i,σ3,H3,I3,qe,qf,w3⟩;rcases turn i n σ3 H3 w3 with ⟨stop,qn⟩|⟨go,N,hN,step⟩
 .refine abQ hp (aD (T.done X rfl rfl rfl hc i pins s3 σ3 H3 X.xe I3 (wI qf) qe stop) λr s4 zq=>?_);obtain⟨hr,I4⟩:=zq;subst hr;exact acv ⟨σ3,H3,I4,qn⟩
 .refine abQ hp (aD (T.item X rfl rfl rfl hc i pins s3 σ3 H3 X.xe I3 (wI qf) qe go) λr s4 zq=>?_);obtain⟨u,hr,h4⟩:=zq;subst hr;refine abQ hp (aD h4 λ_ s5 zq=>?_);obtain⟨x,H5,I5,r5,y5,mr,wJ⟩:=zq;have wK:=I5.pinned (wI wJ) (T.obj _ _ mr);refine abQ hp (aD (hg _ s5 σ3 H5 x u _ wK r5 (step x H5 y5)) λ_ s6 zq=>?_);obtain⟨σ6,H6,I6,q6⟩:=zq;refine abQ hp (aD (hb _ s6 σ6 H6 _ I6 q6) λf s7 q7=>?_);have again:∀ {σ7:St} {H7:Hp},Inv X (pins++qd fp s5.heap) σ7 H7 s7->N σ7 H7->∃ m,m<n/\∃ i σ' H',Inv X pins σ' H' s7/\tn i s7.heap/\(∀ b∈fp,H' b=none)/\W i m σ' H':=λ{σ7 H7} I7 n7=>by obtain⟨m',hm,w7⟩:=hN σ7 H7 n7;refine⟨m',hm,i+1,σ7,H7,I7.mq,T.keep _ _ _ mr λb hb o e=>(I7.pin (b,o) (YL _ (YL _ (tS hb e)))).1,λb hb=>?_,w7⟩;obtain⟨o,e,d⟩:=T.obj _ _ mr b hb;exact (I7.pin (b,o) (YL _ (YL _ (tS hb e)))).2.1
  cases f with
  | next=>obtain⟨σ7,H7,I7,n7⟩:=q7;exact again I7 n7
  | cont=>obtain⟨σ7,H7,I7,n7⟩:=q7;exact again I7 n7
  | brk=>obtain⟨σ7,H7,I7,q7⟩:=q7;exact⟨σ7,H7,I7.mq,q7⟩
  | ret v=>obtain⟨x7,σ7,H7,I7,r7,q7⟩:=q7;exact⟨x7,σ7,H7,I7.mq,r7,q7⟩
end
theorem KJ{K:Yu}{a:YN}{xs:List V}{g:TG}{tb:TS}{D:Ends}{σ:St}{H:Hp}(Pv:Nat->St->Hp->Prop)(h0:Pv 0 σ H)(hl:∀ i σ H,i<=xs.length->Pv i σ H->ah K H a xs)
 (hs:∀ i x σ H,xs[i]?=some x->Pv i σ H->g x σ H λσ2 H2=>tb { D with nx:=Pv (i+1),ct:=Pv (i+1),bk:=D.nx } σ2 H2) (hd:∀ σ H,Pv xs.length σ H->D.nx σ H) :
 ∃ W:Nat->Nat->St->Hp->Prop,(∃ m,W 0 m σ H)/\∀ i m σ H,W i m σ H ->
  ((iY K a).stop i H/\D.nx σ H)∨((iY K a).go i H/\∃ N:St->Hp->Prop,(∀ σ' H',N σ' H'->∃ m',m'<m/\W (i+1) m' σ' H')/\∀ x H',(iY K a).yld i H x H'->g x σ H' λσ2 H2=>tb { D with nx:=N,ct:=N,bk:=D.nx } σ2 H2):=by
 refine⟨λi m σ H=>m=xs.length-i/\i<=xs.length/\Pv i σ H,⟨xs.length,by simp,Zc _,h0⟩,?_⟩;rintro i m σ H ⟨rfl,hi,p⟩;have q:=hl i σ H hi p;by_cases aU:i<xs.length
 .refine .inr ⟨⟨xs,xs[i],q,by simp[aU]⟩,Pv (i+1),λσ' H' p'=>⟨xs.length-(i+1),by omega,rfl,aU,p'⟩,λx H' y=>?_⟩;obtain⟨e,y⟩:=y;subst e;exact hs i x σ _ (y xs q) p
 .have e:i=xs.length:=by omega
  subst e;exact .inl ⟨⟨xs,q,YD _⟩,hd σ H p⟩
theorem KL{lo:Int}{n:Nat}{g:TG}{tb:TS}{D:Ends}{σ:St}{H:Hp}(Pv:Nat->St->Hp->Prop)(h0:Pv 0 σ H)
 (hs:∀ i σ H,i<n->Pv i σ H->g (.int (lo+i)) σ H λσ2 H2=>tb { D with nx:=Pv (i+1),ct:=Pv (i+1),bk:=D.nx } σ2 H2) (hd:∀ σ H,Pv n σ H->D.nx σ H) :
 ∃ W:Nat->Nat->St->Hp->Prop,(∃ m,W 0 m σ H)/\∀ i m σ H,W i m σ H ->
  ((eU lo n).stop i H/\D.nx σ H)∨((eU lo n).go i H/\∃ N:St->Hp->Prop,(∀ σ' H',N σ' H'->∃ m',m'<m/\W (i+1) m' σ' H')/\∀ x H',(eU lo n).yld i H x H'->g x σ H' λσ2 H2=>tb { D with nx:=N,ct:=N,bk:=D.nx } σ2 H2):=by
 refine⟨λi m σ H=>m=n-i/\i<=n/\Pv i σ H,⟨n,by simp,Zc _,h0⟩,?_⟩;rintro i m σ H ⟨rfl,hi,p⟩;by_cases aU:i<n
 .refine .inr ⟨aU,Pv (i+1),λσ' H' p'=>⟨n-(i+1),by omega,rfl,aU,p'⟩,λx H' y=>?_⟩;obtain⟨e,y⟩:=y;subst e y;exact hs i σ _ aU p
 .have e:i=n:=by omega
  subst e;exact .inl ⟨YD _,hd σ H p⟩
abbrev R2:=V->V->Hp->VK->Prop
def ba(X:Cx)(f:YB->YB->Sem YB)(r:R2):Prop :=
 ∀ (pins:List (YN × Obj)) (s:YK) (σ:St) (H:Hp) (x y:V) (v u:YB) (Q:VK),Inv X pins σ H s->RelV x v->RelV y u->r x y H Q ->
  YT (model X.prog X.w) X.A (f v u) (EP X pins σ Q) X.xe s
def nY(X:Cx)(f:YB->Sem YB)(r:V->Hp->VK->Prop):Prop :=
 ∀ (pins:List (YN × Obj)) (s:YK) (σ:St) (H:Hp) (x:V) (v:YB) (Q:VK),Inv X pins σ H s->RelV x v->r x H Q ->
  YT (model X.prog X.w) X.A (f v) (EP X pins σ Q) X.xe s
def dN(X:Cx)(f:YB)(r:List V->Hp->VK->Prop):Prop :=
 ∀ (pins:List (YN × Obj)) (s:YK) (σ:St) (H:Hp) (xs:List V) (us:List YB) (Q:VK),Inv X pins σ H s->Vals xs us->r xs H Q ->
  YT (model X.prog X.w) X.A (call f us) (EP X pins σ Q) X.xe s
def mv(r:R2)(ta tb:TE):TE:=λσ H Q=>ta σ H λx H1=>tb σ H1 λy H2=>r x y H2 Q
def B8(r:V->Hp->VK->Prop)(ta:TE):TE:=λσ H Q=>ta σ H λx H1=>r x H1 Q
def rI(C:Int->Int->Prop)(g:Int->Int->V):R2:=λx y H Q=>∃ i j,x = .int i/\y = .int j/\C i j/\Q (g i j) H
def fQ(g:Int->Int->V):R2:=λx y H Q=>∃ i j,x = .int i/\y = .int j/\Q (g i j) H
def rU(g:Int->V):V->Hp->VK->Prop:=λx H Q=>∃ i,x = .int i/\Q (g i) H
section
theorem wL(ha:PE X a ta)(hb:PE X b tb){pins:List (YN × Obj)}{s:YK}{σ:St}{H:Hp}{R:V->V->Hp->Prop}(I:Inv X pins σ H s)
 (h:ta σ H λx H1=>tb σ H1 λy H2=>R x y H2) {Q:YB->YK->Prop} {f:YB->YB->Sem YB}
 (hf:∀ v u s2 x y H2,Inv X pins σ H2 s2->RelV x v->RelV y u->R x y H2->YT (model X.prog X.w) X.A (f v u) Q X.xe s2) :
 YT (model X.prog X.w) X.A (eval a X.env) (λv s₁=>YT (model X.prog X.w) X.A (eval b X.env) (λu s₂=>YT (model X.prog X.w) X.A (f v u) Q X.xe s₂) X.xe s₁) X.xe s:=by
 refine aD (ha pins s σ H _ I h) λv s1 zq=>?_;obtain⟨x,H1,I1,r1,q1⟩:=zq;refine aD (hb pins s1 σ H1 _ I1 q1) λu s2 zq=>?_;obtain⟨y,H2,I2,r2,q2⟩:=zq;exact hf v u s2 x y H2 I2 r1 r2 q2
theorem aF(ho:ba X (abm op) r)(ha:PE X a ta)(hb:PE X b tb):PE X (.BinOp a op b pos) (mv r ta tb):=by intro pins s σ H Q I h;exact wpAny_BinOp (wL ha hb I h λv u s2 x y H2 I2 rx ry q=>ho pins s2 σ H2 x y v u Q I2 rx ry q)
theorem fu(ho:nY X (unaryOp op) r)(ha:PE X a ta):PE X (.UnaryOp op a pos) (B8 r ta):=by intro pins s σ H Q I h;exact UnaryOp_ (aD (ha pins s σ H _ I h) λv s1 ⟨x,H1,I1,r1,q1⟩=>ho pins s1 σ H1 x v Q I1 r1 q1)
theorem tT{f:YB->YB->Sem YB}{C:Int->Int->Prop}{g:Int->Int->Int}
 (rule:∀ (i j:Int) (t u:Tok) (s:YK) (Q:YB->YK->Prop) (E:YB->YK->Prop),C i j->Q (.int (g i j) s.toks) { s with toks:=s.toks+1 }->YT (model X.prog X.w) X.A (f (.int i t) (.int j u)) Q E s) :
 ba X f (rI C λi j=>.int (g i j)):=by
 intro pins s σ H x y v u Q I rx ry h;obtain⟨i,j,rfl,rfl,hc,q⟩:=h;obtain⟨t,rfl⟩:=rx;obtain⟨t',rfl⟩:=ry;exact rule i j t t' s _ _ hc ⟨.int (g i j),H,I.tok _,⟨_,rfl⟩,q⟩
theorem B9{f:YB->YB->Sem YB}{g:Int->Int->Int}
 (rule:∀ (i j:Int) (t u:Tok) (s:YK) (Q:YB->YK->Prop) (E:YB->YK->Prop),Q (.int (g i j) s.toks) { s with toks:=s.toks+1 }->YT (model X.prog X.w) X.A (f (.int i t) (.int j u)) Q E s) :
 ba X f (fQ λi j=>.int (g i j)):=by
 intro pins s σ H x y v u Q I rx ry h;obtain⟨i,j,rfl,rfl,q⟩:=h;obtain⟨t,rfl⟩:=rx;obtain⟨t',rfl⟩:=ry;exact rule i j t t' s _ _ ⟨.int (g i j),H,I.tok _,⟨_,rfl⟩,q⟩
theorem tU{f:YB->YB->Sem YB}{g:Int->Int->Bool}
 (rule:∀ (i j:Int) (t u:Tok) (s:YK) (Q:YB->YK->Prop) (E:YB->YK->Prop),Q (.bool (g i j)) s->YT (model X.prog X.w) X.A (f (.int i t) (.int j u)) Q E s) :
 ba X f (fQ λi j=>.bl (g i j)):=by
 intro pins s σ H x y v u Q I rx ry h;obtain⟨i,j,rfl,rfl,q⟩:=h;obtain⟨t,rfl⟩:=rx;obtain⟨t',rfl⟩:=ry;exact rule i j t t' s _ _ ⟨.bl (g i j),H,I,rfl,q⟩
def KN(i j:Int):Prop:=0<=j/\j<=1000000/\i.natAbs<2 ^ 64
theorem KO:ba X (abm .Add) (fQ λi j=>.int (i+j)):=B9 λ_ _ _ _ _ _ _ q=>add_int q
theorem KP:ba X (abm .Sub) (fQ λi j=>.int (i-j)):=B9 λ_ _ _ _ _ _ _ q=>sub_int q
theorem KQ:ba X (abm .Mod) (rI (λ_ j=>0<j) λi j=>.int (i % j)):=tT λi j _ _ _ _ _ hc q=>by have h1:(0:Int)<j:=hc;exact mod_int' (by omega) (by rw[Int.fmod_eq_emod_of_nonneg i (by omega)];exact q)
theorem wM:ba X (abm .Pow) (rI KN λi j=>.int (i ^ j.toNat)):=tT λ_ _ _ _ _ _ _ hc q=>pow_int_small hc.1 hc.2.1 hc.2.2 q
theorem KR{f:YB->Sem YB}{g:Int->Int}
 (rule:∀ (i:Int) (t:Tok) (s:YK) (Q:YB->YK->Prop) (E:YB->YK->Prop),Q (.int (g i) s.toks) { s with toks:=s.toks+1 }->YT (model X.prog X.w) X.A (f (.int i t)) Q E s) :
 nY X f (rU λi=>.int (g i)):=by
 intro pins s σ H x v Q I rx h;obtain⟨i,rfl,q⟩:=h;obtain⟨t,rfl⟩:=rx;exact rule i t s _ _ ⟨.int (g i),H,I.tok _,⟨_,rfl⟩,q⟩
theorem KS:nY X (unaryOp .USub) (rU λi=>.int (-i)):=KR λ_ _ _ _ _ q=>neg_int q
end
noncomputable def jH:V->V->Bool
 | .non,.non=>true|.non,.int _=>true|.int _,.non=>true|.non,.bl _=>true|.bl _,.non=>true|.non,.str _=>true|.str _,.non=>true
 | .int _,.int _=>true|.bl _,.bl _=>true|.str _,.str _=>true|.byt _,.byt _=>true
 | .int _,.str _=>true|.str _,.int _=>true|.bl _,.str _=>true|.str _,.bl _=>true
 | _,_=>false
def Ca:R2:=λx y H Q=>jH x y=true/\Q (.bl (decide (x=y))) H
def Cb:R2:=λx y H Q=>jH x y=true/\Q (.bl (!decide (x=y))) H
theorem Cc:decide (V.int i=V.int j)=(i == j):=by rw[aaH];simp
theorem Cd:decide (V.bl i=V.bl j)=(i == j):=by rw[aaH];simp
theorem Ce:decide (V.str i=V.str j)=(i == j):=by rw[aaH];simp
theorem Cf:decide (V.byt i=V.byt j)=(i.toList == j.toList):=by rw[aaH];cases i;cases j;simp
section
theorem bR(I:Inv X pins σ H s)(q:Q (.bl k) H)(e:k=k'):EP X pins σ Q (.bool k') s:=by subst e;exact⟨.bl k,H,I,rfl,q⟩
theorem kK:ba X (Z5 .Eq) Ca:=by
 intro pins s σ H x y v u Q I rx ry h;obtain⟨hs,q⟩:=h;cases x with
 | non =>
  cases rx;cases y with
  | non=>cases ry;exact PySem.EqNone.eq_none_none (bR I q (by simp))
  | bl j=>cases ry;exact PySem.EqNone.eq_none_bool (bR I q (by simp))
  | int j=>obtain⟨t',rfl⟩:=ry;exact PySem.EqNone.eq_none_int (bR I q (by simp))
  | str j=>obtain⟨t',rfl⟩:=ry;exact PySem.EqNone.eq_none_str (bR I q (by simp))
  | _=>exact absurd (show false=true from hs) Y3
 | bl i =>
  cases rx;cases y with
  | non=>cases ry;exact PySem.EqNone.eq_bool_none (bR I q (by simp))
  | bl j=>cases ry;exact eq_bool (bR I q Cd)
  | str j=>obtain⟨t',rfl⟩:=ry;exact PySem.EqMixed.eq_bool_str (bR I q (by simp))
  | _=>exact absurd (show false=true from hs) Y3
 | int i =>
  obtain⟨t,rfl⟩:=rx;cases y with
  | non=>cases ry;exact PySem.EqNone.eq_int_none (bR I q (by simp))
  | int j=>obtain⟨t',rfl⟩:=ry;exact eq_int (bR I q Cc)
  | str j=>obtain⟨t',rfl⟩:=ry;exact PySem.EqMixed.eq_int_str (bR I q (by simp))
  | _=>exact absurd (show false=true from hs) Y3
 | str i =>
  obtain⟨t,rfl⟩:=rx;cases y with
  | non=>cases ry;exact PySem.EqNone.eq_str_none (bR I q (by simp))
  | bl j=>cases ry;exact PySem.EqMixed.eq_str_bool (bR I q (by simp))
  | int j=>obtain⟨t',rfl⟩:=ry;exact PySem.EqMixed.eq_str_int (bR I q (by simp))
  | str j=>obtain⟨t',rfl⟩:=ry;exact eq_str (bR I q Ce)
  | _=>exact absurd (show false=true from hs) Y3
 | byt i =>
  obtain⟨t,rfl⟩:=rx;cases y with
  | byt j=>obtain⟨t',rfl⟩:=ry;exact PySem.W.eq_bytes (bR I q Cf)
  | _=>exact absurd (show false=true from hs) Y3
 | _=>cases y<;>exact absurd (show false=true from hs) Y3
theorem KU:ba X (Z5 .NotEq) Cb:=by
 intro pins s σ H x y v u Q I rx ry h;obtain⟨hs,q⟩:=h;cases x with
 | non =>
  cases rx;cases y with
  | non=>cases ry;exact PySem.EqNone.ne_none_none (bR I q (by simp))
  | bl j=>cases ry;exact PySem.EqNone.ne_none_bool (bR I q (by simp))
  | int j=>obtain⟨t',rfl⟩:=ry;exact PySem.EqNone.ne_none_int (bR I q (by simp))
  | str j=>obtain⟨t',rfl⟩:=ry;exact PySem.EqNone.ne_none_str (bR I q (by simp))
  | _=>exact absurd (show false=true from hs) Y3
 | bl i =>
  cases rx;cases y with
  | non=>cases ry;exact PySem.EqNone.ne_bool_none (bR I q (by simp))
  | bl j=>cases ry;exact ne_bool (bR I q (congrArg not Cd))
  | str j=>obtain⟨t',rfl⟩:=ry;exact PySem.EqMixed.ne_bool_str (bR I q (by simp))
  | _=>exact absurd (show false=true from hs) Y3
 | int i =>
  obtain⟨t,rfl⟩:=rx;cases y with
  | non=>cases ry;exact PySem.EqNone.ne_int_none (bR I q (by simp))
  | int j=>obtain⟨t',rfl⟩:=ry;exact ne_int (bR I q (congrArg not Cc))
  | str j=>obtain⟨t',rfl⟩:=ry;exact PySem.EqMixed.ne_int_str (bR I q (by simp))
  | _=>exact absurd (show false=true from hs) Y3
 | str i =>
  obtain⟨t,rfl⟩:=rx;cases y with
  | non=>cases ry;exact PySem.EqNone.ne_str_none (bR I q (by simp))
  | bl j=>cases ry;exact PySem.EqMixed.ne_str_bool (bR I q (by simp))
  | int j=>obtain⟨t',rfl⟩:=ry;exact PySem.EqMixed.ne_str_int (bR I q (by simp))
  | str j=>obtain⟨t',rfl⟩:=ry;exact ne_str (bR I q (congrArg not Ce))
  | _=>exact absurd (show false=true from hs) Y3
 | byt i =>
  obtain⟨t,rfl⟩:=rx;cases y with
  | byt j=>obtain⟨t',rfl⟩:=ry;exact PySem.W.ne_bytes (bR I q (congrArg not Cf))
  | _=>exact absurd (show false=true from hs) Y3
 | _=>cases y<;>exact absurd (show false=true from hs) Y3
theorem wN:ba X (Z5 .Lt) (fQ λi j=>.bl (decide (i<j))):=tU λ_ _ _ _ _ _ _ q=>lt_int q
theorem gI:ba X (Z5 .LtE) (fQ λi j=>.bl (decide (i<=j))):=tU λ_ _ _ _ _ _ _ q=>le_int q
theorem nZ:ba X (Z5 .Gt) (fQ λi j=>.bl (decide (j<i))):=tU λ_ _ _ _ _ _ _ q=>gt_int q
theorem KW:ba X (Z5 .GtE) (fQ λi j=>.bl (decide (j<=i))):=tU λ_ _ _ _ _ _ _ q=>ge_int q
theorem cO(b:ach)(h:op ≠ .In:=by decide)(h2:op ≠ .NotIn:=by decide):aaQ op b=false:=by
 have e1:(op == CmpOp.In)=false:=by cases op<;>first|rfl|exact absurd rfl h
 have e2:(op == CmpOp.NotIn)=false:=by cases op<;>first|rfl|exact absurd rfl h2
 cases b<;>simp[aaQ,e1,e2]
theorem eV(ho:ba X (Z5 op) r)(ha:PE X a ta)(hb:PE X b tb)(hm:aaQ op b=false):PE X (.Compare a [op] [b] pos) (mv r ta tb):=by intro pins s σ H Q I h;exact wpAny_Compare1 (wL ha hb I h λv u s2 x y H2 I2 rx ry q=>ho pins s2 σ H2 x y v u Q I2 rx ry q) hm
def wO(t:TE):TT:=λσ H Q=>t σ H λx H'=>∃ k,x = .bl k/\Q k H'
theorem iZ(ho:ba X (Z5 op) r)(ha:PE X a ta)(hb:PE X b tb)(hm:aaQ op b=false):PT X (.Compare a [op] [b] pos) (wO (mv r ta tb)):=by
 intro pins s σ H Q I h;refine ad3 (aD (ha pins s σ H _ I h) λv s1 ⟨x,H1,I1,r1,q1⟩=>aD (hb pins s1 σ H1 _ I1 q1) λu s2 ⟨y,H2,I2,r2,q2⟩ =>
  aD (ho pins s2 σ H2 x y v u _ I2 r1 r2 q2) λc s3 ⟨z,H3,I3,r3,k,e,q3⟩=>?_) hm
 subst e;cases r3;exact ZH ⟨H3,I3,q3⟩
def wQ(r r':R2)(ta tb tc:TE):TE:=λσ H Q=>ta σ H λx H1=>tb σ H1 λy H2=>r x y H2 λz H3=>∃ k,z = .bl k /\
 (if k=true then tc σ H3 λw' H4=>r' y w' H4 Q else Q (.bl false) H3)
theorem Cg(ho:ba X (Z5 op) r)(cB:ba X (Z5 jI) r')(ha:PE X a ta)(hb:PE X b tb)(hc:PE X c tc)(hm:agX [op,jI] [b,c]=false:=by with_unfolding_all rfl):PE X (.Compare a [op,jI] [b,c] pos) (wQ r r' ta tb tc):=by
 intro pins s σ H Q I h;refine Compare_chain (aD (ha pins s σ H _ I h) λv s1 ⟨x,H1,I1,r1,q1⟩=>chain_link (aD (hb pins s1 σ H1 _ I1 q1) λu s2 ⟨y,H2,I2,r2,q2⟩ =>
  aD (ho pins s2 σ H2 x y v u _ I2 r1 r2 q2) λd s3 ⟨z,H3,I3,r3,k,e,q3⟩=>?_)) hm
 subst e;cases r3;refine ZH ?_;cases k with
 | false=>exact ite_ff ⟨.bl false,H3,I3,rfl,q3⟩
 | true=>exact ite_tt (chain_last (aD (hc pins s3 σ H3 _ I3 q3) λw' s4 ⟨z',H4,I4,r4,q4⟩=>cB pins s4 σ H4 y z' u w' Q I4 r2 r4 q4))
theorem KY(ho:ba X (Z5 op) r)(cB:ba X (Z5 jI) r')(ha:PE X a ta)(hb:PE X b tb)(hc:PE X c tc)(hm:agX [op,jI] [b,c]=false:=by with_unfolding_all rfl):PT X (.Compare a [op,jI] [b,c] pos) (wO (wQ r r' ta tb tc)):=by
 intro pins s σ H Q I h;refine isTrue_chain (aD (ha pins s σ H _ I h) λv s1 ⟨x,H1,I1,r1,q1⟩=>test_link (aD (hb pins s1 σ H1 _ I1 q1) λu s2 ⟨y,H2,I2,r2,q2⟩ =>
  aD (ho pins s2 σ H2 x y v u _ I2 r1 r2 q2) λd s3 ⟨z,H3,I3,r3,k,e,q3⟩=>?_)) hm
 subst e;cases r3;refine ZH ?_;cases k with
 | false =>
  obtain⟨k',e',q'⟩:=q3;cases e';exact ite_ff ⟨H3,I3,q'⟩
 | true =>
  refine ite_tt (test_last (aD (hc pins s3 σ H3 _ I3 q3) λw' s4 ⟨z',H4,I4,r4,q4⟩=>aD (cB pins s4 σ H4 y z' u w' _ I4 r2 r4 q4) λd' s5 zq=>?_));obtain⟨z2,H5,I5,r5,k2,e2,q5⟩:=zq;subst e2;cases r5;exact ZH ⟨H5,I5,q5⟩
theorem qg:(Y0:Nat)<2 ^ 63:=by rw[Z8];decide
theorem kL:ba X (abm .Add) (λx y H Q=>∃ i j,x = .str i/\y = .str j/\i.length+j.length<=Y0/\Q (.str (i++j)) H):=by intro pins s σ H x y v u Q I rx ry h;obtain⟨i,j,rfl,rfl,hz,q⟩:=h;obtain⟨t,rfl⟩:=rx;obtain⟨t',rfl⟩:=ry;exact add_str (λt' tk=>⟨.str (i++j),H,I.tok _,⟨_,rfl⟩,q⟩) hz
theorem vals1(r:Vals [x] us):∃ u,us=[u]/\RelV x u:=by
 cases r with
 | cons r1 r2=>cases r2;exact⟨_,rfl,r1⟩
theorem vals2(r:Vals [x,y] us):∃ u w',us=[u,w']/\RelV x u/\RelV y w':=by
 cases r with
 | cons r1 r2 =>
  cases r2 with
  | cons r3 r4=>cases r4;exact⟨_,_,rfl,r1,r3⟩
theorem KZ(hc:X.calm=true):dN X (.builtin "min") (λxs H Q=>∃ i j,xs=[.int i,.int j]/\Q (.int (if j<i then j else i)) H):=by
 intro pins s σ H xs us Q I r h;obtain⟨i,j,rfl,q⟩:=h;obtain⟨u,w',rfl,⟨t,rfl⟩,⟨t',rfl⟩⟩:=vals2 r;refine min_two_ints (I.ok.hd hc) λh' tk k=>⟨_,H,I.kept k,?_,q⟩
 by_cases hj:j<i
 .rw[if_pos hj,if_pos hj];exact⟨_,rfl⟩
 .rw[if_neg hj,if_neg hj];exact⟨_,rfl⟩
theorem wR:dN X (.type "str") (λxs H Q=>∃ i,xs=[.int i]/\i.natAbs.log2<1920/\Q (.str (toString i)) H):=by intro pins s σ H xs us Q I r h;obtain⟨i,rfl,hz,q⟩:=h;obtain⟨u,rfl,t,rfl⟩:=vals1 r;exact PySem.P.str_of_int hz ⟨.str _,H,I.tok _,⟨_,rfl⟩,q⟩
def tV(K:Yu)(x:V)(H:Hp)(n:Nat):Prop :=
 match x with
 | .str y=>y.length<=Y0/\n=y.length
 | .byt y=>y.size<=Y0/\n=y.size
 | .ref p=>(∃ xs,ah K H p xs/\n=xs.length) ∨ ∃ xs,aj K H p xs/\n=xs.length
 | _=>False
theorem cK:dN X (.builtin "len") (λxs H Q=>∃ x n,xs=[x]/\tV X.K x H n/\Q (.int n) H):=by
 intro pins s σ H xs us Q I r h;obtain⟨x,n,rfl,e,q⟩:=h;obtain⟨u,rfl,rx⟩:=vals1 r;have hl:=qg;have hs:Y0=16777216:=Z8;cases x with
 | str y =>
  obtain⟨t,rfl⟩:=rx;obtain⟨hy,e'⟩:y.length<=Y0/\n=y.length:=e;subst e';exact len_str (by omega) ⟨.int _,H,I.tok _,⟨_,rfl⟩,q⟩
 | byt y =>
  obtain⟨t,rfl⟩:=rx;obtain⟨hy,e'⟩:y.size<=Y0/\n=y.size:=e;subst e';exact PySem.W.len_bytes (by omega) ⟨.int _,H,I.tok _,⟨_,rfl⟩,q⟩
 | ref p =>
  cases rx;have e':(∃ xs,ah X.K H p xs/\n=xs.length) ∨ ∃ xs,aj X.K H p xs/\n=xs.length:=e;rcases e' with ⟨xs,hx,e'⟩|⟨xs,hx,e'⟩
  .subst e';obtain⟨ai,r',pl,hz⟩:=I.list hx;have hlen:=r'.length;exact Calls.call_len_list pl.isList (by simp only[YI];omega) ⟨.int xs.length,H,I.tok _,⟨_,by simp only[YI];rw[hlen]⟩,q⟩
  .subst e';obtain⟨ai,r',pl,hz⟩:=I.tuple hx;have hlen:=r'.length;exact len_tuple pl (by simp only[YI];omega) ⟨.int xs.length,H,I.tok _,⟨_,by simp only[YI];rw[hlen]⟩,q⟩
 | _=>exact (show False from e).elim
end
structure mw(h:aa4)(x dx C:YN)(mA:Str->Option YB):Prop where
 obj:h.get? x=some (aaG C dx)
 ns:h.Ns1 dx mA
 ne:dx≠x
theorem K0{h:aa4}{dx:YN}{mA:Str->Option YB}(n:h.Ns1 dx mA):∃ od,h.get? dx=some od/\∀ name,acZ name od=some (mA name):=by
 obtain⟨o,es,ep,ho,hd,hk,_,hm⟩:=n;refine⟨o,ho,λname=>?_⟩;have e:=hm name;unfold nsFind findBy at e;rw[<- Array.find?_toList] at e;unfold acZ;rw[hd];dsimp only;split
 .rename_i y q;rw[q] at e;exact congrArg some e
 .rename_i q;rw[q] at e;have a:es.toList.any (·.refKey)=false:=by rw[afc];intro y hy;obtain⟨z,t,gn⟩:=hk y (Array.mem_toList_iff.mp hy);simp[DictEntry.refKey,gn]
  have a':¬ es.toList.any (·.refKey)=true:=by rw[a];exact Y3
  rw[if_neg a'];exact congrArg some e
theorem mw.look(I:mw h x dx C mA):∃ od,PySem.W.InstAt h x (aaG C dx) C (some od)/\∀ name,acZ name od=some (mA name) :=
 let ⟨od,ho,hl⟩:=K0 I.ns
 ⟨od,⟨I.obj,rfl,rfl,ho⟩,hl⟩
section
variable{prog:Zy}{w:aaa}{A:aaq}{E:YB->YK->Prop}{s:YK}{K:Yu}{x dx C f:YN}{mA:Str->Option YB}{name:Str}{v:YB}
theorem get_map{expr:Bool}{Q:YB->YK->Prop}(X:K.In s.heap)(I:mw s.heap x dx C mA)(hg:acj K C name=true)(hh:adh K C=true)
 (ha:ZA K (.ref C) name=some none) (hv:mA name=some v) (K1:afF v=true) (h:Q v { s with toks:=s.toks+1 }) :
 YT (model prog w) A (getAttr (.ref x) name expr) Q E s:=by
 obtain⟨od,J,hl⟩:=I.look;exact PySem.W.get_value X J (acy hg).1 (PySem.W.findObj_own hh ha rfl (by rw[hl,hv])) K1 h
theorem K2{pl:Sem Bool}{Q:YB × List YB->YK->Prop}(X:K.In s.heap)(I:mw s.heap x dx C mA)(hg:acj K C name=true)
 (hf:ZA K (.ref C) name=some (some (.ref f))) (ht:ad4 K (.ref f)=true) (hv:mA name=none) (h:Q (.ref f,[.ref x]) s) :
 YT (model prog w) A (afX (.ref x) name pl) Q E s:=by
 obtain⟨od,J,hl⟩:=I.look;exact PySem.W.method_fn X J (acy hg).1 (acy hg).2 hf (beq_iff_eq.mp ht) (by show (acZ name od).map (·.isSome)=some false;rw[hl,hv];rfl) h
theorem K3{ns:List Str}{Q:Unit->YK->Prop}(X:K.In s.heap)(I:mw s.heap x dx C mA)
 (hs:ZA K (.ref C) "__setattr__" = some (some (.builtin "object.__setattr__"))) (hp:afd K C=true) (ht:ad5 K C name=some none) (hh:adh K C=true)
 (hw:afv mA ns) (hsz:ns.length<=Y0)
 (h:∀ h',mw h' x dx C (λy=>if y=name then some v else mA y)->Heap.SameBut dx s.heap h'->Q () { s with heap:=h',toks:=s.toks+2 }) :
 YT (model prog w) A (setAttr (.ref x) name v) Q E s:=by
 obtain⟨od,J,hl⟩:=I.look;refine PySem.W.set_plain X J hs (PySem.W.osa_open (s:={ s with toks:=s.toks+1 }) (r:=none) X J hp ht λb=>?_);obtain⟨cd,hc,hV⟩:=PySem.W.any_some hh;have hx:s.heap.get? x=some ⟨.ref C,some dx,.plain,#[]⟩:=I.obj;refine Yt (Yz (Yt (Yt (wpAny_loadPart hx (Yt (PySem.W.Looks.here (s:={ s with toks:=s.toks+1 }) (PySem.W.looks_clsIn X hc) ?_))))));rw[hV];refine Yz (a:=some dx) (Yt (Yz (Yt ?_)));refine wpAny_nsSet1 (s:={ s with toks:=s.toks+1 }) I.ns λh' tW b5=>?_;obtain⟨oD,X7,X9,K4,K5,K6⟩:=tW.count (PySem.Within.cons name v hw);refine Yt (wpAny_lookBehind K4 (by rw[K5];exact pastItsLine_dict (YE K6 (by rw[Zr];omega))) ?_);exact Yz (h _ ⟨(b5.2 _ (Zt I.ne)).trans I.obj,tW,I.ne⟩ b5)
theorem K7{R:afx->YK->Prop}{vs:List YB}{kw:List (Str × YB)}(X:K.In s.heap)(hm:ad6 K C=true)
 (hi:ZA K (.ref C) "__init__" = some (some (.ref f))) (hf:ac0 K (.ref f)=some (.type "function"))
 (h:abv (model prog w) (A.under (.builtin "type.__call__" ⟨.ref C::vs,kw⟩)) (.call (.ref f) ⟨.ref (s.heap.objs.size+1)::vs,kw⟩) (PySem.W.InitBack (s.heap.objs.size+1) R)
   { s with heap:=(s.heap.push aab).push (aaG C s.heap.objs.size) }) :
 abv (model prog w) A (.call (.ref C) ⟨vs,kw⟩) R s:=by
 obtain⟨hh,g,d,t,os⟩:=s;exact PySem.W.make_core (PySem.W.makes_of X hm) (PySem.W.looks_findIn X hi) (λself=>PySem.W.bind_fn X self hf) (.inl rfl) h
end
noncomputable def eE(f:Str)(v:V):List (Str × V)->List (Str × V)
 | []=>[(f,v)]
 | (g,x)::r=>if g=f then (g,v)::r else (g,x)::eE f v r
theorem Ci(f g:Str)(v:V):∀ fs:List (Str × V),(eE f v fs).lookup g=if g=f then some v else fs.lookup g
 | []=>by
  show ab5 g [(f,v)]=_;by_cases h:g=f
  .have hb:(g == f)=true:=beq_iff_eq.mpr h;simp only[ab5,hb,if_pos h]
  .have hb:(g == f)=false:=beq_eq_false_iff_ne.mpr h;simp only[ab5,hb,if_neg h]
 | (k,x)::r=>by
  have ih:=Ci f g v r;rw[show eE f v ((k,x)::r)=(if k=f then (k,v)::r else (k,x)::eE f v r) from rfl];by_cases hk:k=f
  .rw[if_pos hk];by_cases h:g=k
   .have hb:(g == k)=true:=beq_iff_eq.mpr h;simp only[ab5,hb,if_pos (h.trans hk)]
   .have hb:(g == k)=false:=beq_eq_false_iff_ne.mpr h;simp only[ab5,hb,if_neg (λe:g=f=>h (e.trans hk.symm))]
  .rw[if_neg hk];by_cases h:g=k
   .have hb:(g == k)=true:=beq_iff_eq.mpr h;simp only[ab5,hb,if_neg (λe:g=f=>hk (h.symm.trans e))]
   .have hb:(g == k)=false:=beq_eq_false_iff_ne.mpr h;simp only[ab5,hb];exact ih
theorem wU(f:Str)(v:V):∀ fs:List (Str × V),f∈(eE f v fs).map (·.1)/\∀ g,g∈fs.map (·.1)->g∈(eE f v fs).map (·.1)
 | []=>⟨by simp[eE],λg h=>by simp at h⟩
 | (k,x)::r=>by
  obtain⟨i1,i2⟩:=wU f v r;rw[show eE f v ((k,x)::r)=(if k=f then (k,v)::r else (k,x)::eE f v r) from rfl];by_cases hk:k=f
  .rw[if_pos hk];subst hk;exact⟨by simp,λg h=>by simpa using h⟩
  .rw[if_neg hk];refine⟨?_,λg h=>?_⟩
   .rw[YW];exact Zu _ i1
   .rw[YW] at h ⊢;rcases YV.mp h with e|e
    .exact YV.mpr (.inl e)
    .exact Zu _ (i2 g e)
theorem Cj(f:Str)(v:V):∀ fs:List (Str × V),(eE f v fs).length<=fs.length+1
 | []=>by simp[eE]
 | (k,x)::r=>by
  have ih:=Cj f v r;rw[show eE f v ((k,x)::r)=(if k=f then (k,v)::r else (k,x)::eE f v r) from rfl];by_cases hk:k=f
  .rw[if_pos hk,Zr,Zr];omega
  .rw[if_neg hk,Zr,Zr];omega
theorem eO.some_of(r:eO (some v) o):∃ u,o=some u/\RelV v u:=by
 cases o with
 | none=>exact (show False from r).elim
 | some u=>exact⟨u,rfl,r⟩
theorem eO.none_of(r:eO none o):o=none:=by
 cases o with
 | none=>rfl
 | some u=>exact (show False from r).elim
theorem K8(r:RelV v u):afF u=true:=by
 cases v with
 | non=>cases (show u=Value.none from r);rfl
 | bl b=>cases (show u=aaj b from r);rfl
 | int i=>obtain⟨t,e⟩:=(show ∃ t,u=aaX i t from r);cases e;rfl
 | str x=>obtain⟨t,e⟩:=(show ∃ t,u=Value.str x t from r);cases e;rfl
 | byt b=>obtain⟨t,e⟩:=(show ∃ t,u=ag8 b t from r);cases e;rfl
 | flt b=>obtain⟨t,e⟩:=(show ∃ t,u=afW b t from r);cases e;rfl
 | ref a=>cases (show u=Y7 a from r);rfl
 | ty n=>cases (show u=ab3 n from r);rfl
section
theorem tX(ao:bN P w H h)(e:H a=some (.ins C dx fs)):∃ mA,mw h a dx C mA/\(∀ f,eO (fs.lookup f) (mA f))/\afv mA (fs.map (·.1))/\fs.length<=1000/\H dx=some (.own a):=by
 obtain⟨d,z,ne,ob,mA,n,r,q⟩:=(show bw P w H h a (.ins C dx fs) from ao a _ e)
 exact⟨mA,⟨ob,n,ne⟩,r,q,z,d⟩
end
structure fv(K:Yu)(C:YN):Prop where
 pg:acj K C Str.empty=true
 hd:adh K C=true
 po:afd K C=true
 sa:ZA K (.ref C) "__setattr__" = some (some (.builtin "object.__setattr__"))
theorem fv.get{K:Yu}{C:YN}(c:fv K C)(f:Str):acj K C f=true:=c.pg
def fR(K:Yu)(C:YN)(f:Str):Prop:=ZA K (.ref C) f=some none
theorem fR.K9{K:Yu}{C:YN}{f:Str}(n:fR K C f):ad5 K C f=some none:=by unfold ad5;rw[show ZA K (.ref C) f=some none from n];rfl
structure Meth(K:Yu)(C:YN)(m:Str)(f:YN):Prop where
 at_:ZA K (.ref C) m=some (some (.ref f))
 fn:ad4 K (.ref f)=true
 kp:aba K (.ref f)=true
section
theorem La(I:Inv X pins σ H s)(e:H a=some (.ins C dx fs))(c:fv X.K C)(n:fR X.K C f)(l:fs.lookup f=some v)(h:∀ u s',Inv X pins σ H s'->RelV v u->Q u s'):YT (model X.prog X.w) A (getAttr (.ref a) f b) Q E s:=by obtain⟨mA,O,r,_,_,_⟩:=tX I.ao e;obtain⟨u,hu,ru⟩:=eO.some_of (v:=v) (o:=mA f) (by rw[<- l];exact r f);exact get_map I.bZ O (c.get f) c.hd n hu (K8 ru) (h u _ (I.tok _) ru)
theorem Ck(I:Inv X pins σ H s)(e:H a=some (.ins C dx fs))(c:fv X.K C)(k:Meth X.K C m g)(l:fs.lookup m=none)(h:Q (.ref g,[.ref a]) s):YT (model X.prog X.w) A (afX (.ref a) m pl) Q E s:=by obtain⟨mA,O,r,_,_,_⟩:=tX I.ao e;have hn:mA m=none:=eO.none_of (by rw[<- l];exact r m);exact K2 I.bZ O (c.get m) k.at_ k.fn hn h
theorem Lb(I:Inv X pins σ H s)(e:H a=some (.ins C dx fs))(c:fv X.K C)(n:fR X.K C f)(hl:fs.length<1000)(ry:RelV y u)(h:∀ s',Inv X pins σ (upd H a (.ins C dx (eE f y fs))) s'->Q () s'):YT (model X.prog X.w) A (setAttr (.ref a) f u) Q E s:=by
 obtain⟨mA,O,r,wi,_,ho⟩:=tX I.ao e;have hz:(fs.map (·.1)).length<=Y0:=by rw[Yw,Z8];omega
 refine K3 I.bZ O c.sa c.po n.K9 c.hd wi hz λh' O' sb=>h _ ?_;have hd:∃ o,h'.get? dx=some o:=let ⟨o,_,_,e',_⟩:=O'.ns;⟨o,e'⟩;refine I.write (x:=a) (e:=dx) (by rw[e];exact aaZ) (.inr ho) (λb q hb z=>(sb.2 b hb).trans z) hd ?_;refine⟨by rw[aC O.ne];exact ho,?_,O.ne,O'.obj,_,O'.ns,λg=>?_,λg hg=>?_⟩
 .have:=Cj f y fs;omega
 .show eO ((eE f y fs).lookup g) (if g=f then some u else mA g);rw[Ci];by_cases q:g=f
  .rw[if_pos q,if_pos q];exact ry
  .rw[if_neg q,if_neg q];exact r g
 .by_cases q:g=f
  .rw[q];exact (wU f y fs).1
  .refine (wU f y fs).2 g (wi g λz=>hg ?_);show (if g=f then some u else mA g)=none;rw[if_neg q];exact z
theorem Inv.made(I:Inv X pins σ H s):Inv X pins σ (upd (upd H s.heap.objs.size (.own (s.heap.objs.size+1))) (s.heap.objs.size+1) (.ins C s.heap.objs.size []))
 { s with heap:=(s.heap.push aab).push (aaG C s.heap.objs.size) }:=by
 have e1:(s.heap.push aab).get? s.heap.objs.size=some aab:=YH s.heap rfl;have e2:((s.heap.push aab).push (aaG C s.heap.objs.size)).get? (s.heap.objs.size+1)=some (aaG C s.heap.objs.size):=by
  have:=YH (s.heap.push aab) (o:=aaG C s.heap.objs.size) rfl
  rwa [aap] at this
 have e3:(s.heap.push aab).Ns s.heap.objs.size (λ_=>none):=⟨aab,#[],_,e1,rfl,(λe he=>absurd he (by simp)),λ_=>rfl⟩
 have I1:=I.laid (a:=s.heap.objs.size) (o:=.own (s.heap.objs.size+1)) (h':=s.heap.push aab) (t':=s.toks) (λb u q=>Yy _ q) (YD _) ⟨_,e1⟩;refine I1.laid (a:=s.heap.objs.size+1) (o:=.ins C s.heap.objs.size []) (t':=s.toks) (λb u q=>Yy _ q) (ad7 (aap _ _)) ?_;have ne:s.heap.objs.size≠s.heap.objs.size+1:=YS (abC _);refine⟨by rw[aC ne,az],Zc _,ne,e2,λ_=>none,(Heap.Ns1.of_empty e3).at λo q=>Yy _ q,λ_=>aaZ,λy hy=>absurd rfl hy⟩
theorem Lc(hb:abR e f env (eval e env)=eval e env)(h:YT (model prog w) A (eval e env) (λo s₁=>YT (model prog w) A (getAttr o f true) Q E s₁) E s):YT (model prog w) A (eval (.Attribute e f pos) env) Q E s :=
 Attribute_any_ h (by rw[arm_eval_Attribute,hb])
end
def Cm(K:Yu)(ta:TE)(f:Str):TE:=λσ H Q=>ta σ H λx H1=>∃ a C dx fs v,x = .ref a/\H1 a=some (.ins C dx fs)/\fv K C/\fR K C f/\fs.lookup f=some v/\Q v H1
def Cn(K:Yu)(ta tv:TE)(f:Str):TS:=λD σ H=>tv σ H λy H1=>ta σ H1 λx H2=>∃ a C dx fs,x = .ref a/\H2 a=some (.ins C dx fs)/\fv K C/\fR K C f/\fs.length<1000 /\
 D.nx σ (upd H2 a (.ins C dx (eE f y fs)))
section
theorem Ld(he:PE X e ta)(hb:abR e f X.env (eval e X.env)=eval e X.env):PE X (.Attribute e f pos) (Cm X.K ta f):=by
 intro pins s σ H Q I h;refine Lc hb (aD (he pins s σ H _ I h) λu s1 zq=>?_);obtain⟨x,H1,I1,rx,a,C,dx,fs,v,ex,ea,c,n,l,q⟩:=zq;subst ex;obtain rfl:u=Y7 a:=rx;exact La I1 ea c n l λu' s2 I2 ru=>⟨v,H1,I2,ru,q⟩
theorem Le(ha:PE X o ta)(hv:PE X value tv)(hs:acw value (some (.Attribute o f pos')) pos.line X.env=pure false):PS X (.Assign [.Attribute o f pos'] value pos) (Cn X.K ta tv f):=by
 intro pins s σ H D I h;refine plainObj_wpAny_Assign_Attribute (aD (hv pins s σ H _ I h) λu s1 ⟨y,H1,I1,ry,q⟩=>aD (ha pins s1 σ H1 _ I1 q) λov s2 zq=>?_) hs;obtain⟨x,H2,I2,rx,a,C,dx,fs,ex,ea,c,n,l,q2⟩:=zq;subst ex;obtain rfl:ov=Y7 a:=rx;exact Lb I2 ea c n l ry λs3 I3=>⟨σ,_,I3,q2⟩
inductive cP(K:Yu)(H:Hp):V->YB->Prop where
 | non:cP K H .non (.type "NoneType")
 | bl (x:Bool):cP K H (.bl x) (.type "bool")
 | int (i:Int):cP K H (.int i) (.type "int")
 | str (x:Str):cP K H (.str x) (.type "str")
 | flt (x:UInt64):cP K H (.flt x) (.type "float")
 | lst {a:YN} {xs:List V} (e:H a=some (.lst xs)):cP K H (.ref a) (.type "list")
 | aN {a:YN} {o:Obj} {xs:List V} (e:H a=some (.aN o (.lst xs))):cP K H (.ref a) (.type "list")
 | tup {a:YN} {xs:List V} (e:H a=some (.tup xs)):cP K H (.ref a) (.type "tuple")
 | dK {a:YN} {kvs:List (Key × V)} (e:H a=some (.dK kvs)):cP K H (.ref a) (.type "dict")
 | dT {a:YN} {kvs:List (List Key × V)} (e:H a=some (.dT kvs)):cP K H (.ref a) (.type "dict")
 | ins {a C dx:YN} {fs:List (Str × V)} (e:H a=some (.ins C dx fs)) (cl:fv K C) (ha:ZA K (.ref C) "__class__" = some (some (.builtin "object.__class__")))
  (hn:PySem.W.specialIn K (.builtin "object.__class__") "__get__" = some (some (.builtin "getset_descriptor.__get__"))) (Co:PySem.W.takesIn K (.builtin "object.__class__")=some true)
  (hm:PySem.W.mroIn K C (.type "object")=some true):cP K H (.ref a) (.ref C)
theorem Lf(I:Inv X pins σ H s)(rx:RelV x u)(ty:cP X.K H x t)(e:ZC X.K t c=some b)(h:∀ tk,Q (.bool b) { s with toks:=tk }) :
 YT (model X.prog X.w) A (call (.builtin "isinstance") [u,c]) Q E s:=by
 cases ty with
 | non=>cases (show u=Value.none from rx);exact ZX PySem.W.kitx_none I.bZ aaZ e (λz=>nomatch z) h
 | bl y=>cases (show u=aaj y from rx);exact ZX PySem.W.kitx_bool I.bZ aaZ e (λz=>nomatch z) h
 | int i=>obtain⟨t,q⟩:=(show ∃ t,u=aaX i t from rx);cases q;exact ZX PySem.W.kitx_int I.bZ aaZ e (λz=>nomatch z) h
 | str y=>obtain⟨t,q⟩:=(show ∃ t,u=Value.str y t from rx);cases q;exact ZX PySem.W.kitx_str I.bZ aaZ e (λz=>nomatch z) h
 | flt y=>obtain⟨t,q⟩:=(show ∃ t,u=afW y t from rx);cases q;exact ZX PySem.W.kitx_float I.bZ aaZ e (λz=>nomatch z) h
 | @lst a xs ea =>
  cases (show u=Y7 a from rx);obtain⟨_,_,n,_,h1⟩:=(show bw X.prog X.w H s.heap a (.lst xs) from I.ao a _ ea)
  exact ZX afe I.bZ ⟨_,h1,rfl⟩ e (λz=>nomatch z) h
 | @aN a ob xs ea =>
  cases (show u=Y7 a from rx);obtain⟨_,_,_,n,_,h1⟩:=(show bw X.prog X.w H s.heap a (.aN ob (.lst xs)) from I.ao a _ ea)
  exact ZX afe I.bZ ⟨_,h1,rfl⟩ e (λz=>nomatch z) h
 | @tup a xs ea =>
  cases (show u=Y7 a from rx);obtain⟨_,_,_,p⟩:=(show bw X.prog X.w H s.heap a (.tup xs) from I.ao a _ ea)
  obtain⟨o,h1,h2,_⟩:=p;exact ZX PySem.W.kitx_tuple I.bZ ⟨o,h1,h2⟩ e (λz=>nomatch z) h
 | @dK a kvs ea =>
  cases (show u=Y7 a from rx);obtain⟨_,_,vs,_,p⟩:=(show bw X.prog X.w H s.heap a (.dK kvs) from I.ao a _ ea)
  obtain⟨o,es,ep,h1,h2,_⟩:=p;exact ZX aff I.bZ ⟨o,h1,h2.1⟩ e (λz=>nomatch z) h
 | @dT a kvs ea =>
  cases (show u=Y7 a from rx);obtain⟨_,_,xs,_,o,es,ep,h1,h2,_⟩:=(show bw X.prog X.w H s.heap a (.dT kvs) from I.ao a _ ea)
  exact ZX aff I.bZ ⟨o,h1,h2.1⟩ e (λz=>nomatch z) h
 | @ins a C dx fs ea cl ha hn Co hm =>
  cases (show u=Y7 a from rx);obtain⟨mA,O,_⟩:=tX I.ao ea;obtain⟨od,J,_⟩:=O.look;exact ZX (PySem.W.kitx_own (cl.get _) cl.hd ha hn Co hm) I.bZ J e (λz=>nomatch z) h
end
structure bD(k:Nat)(A:aaq):Prop where
 hd:A.handled=none
 dp:A.depth+3 * k+5<recursionLimit
 un:A.units+16 * k+200<adi
theorem bD.mono(r:bD k A)(h:j<=k):bD j A:=⟨r.hd,by have:=r.dp;omega,by have:=r.un;omega⟩
theorem bD.deeper(r:bD (k+1) A)(env:Env):bD k (A.deeper env) :=
 ⟨r.hd,by have:=r.dp;show A.depth+1+3 * k+5<_;omega,by have:=r.un;show A.units+3+16 * k+200<_;omega⟩
theorem bD.in1(r:bD (k+1) A):bD k A.in1 :=
 ⟨r.hd,by have:=r.dp;show A.depth+3 * k+5<_;omega,by have:=r.un;show A.units+1+16 * k+200<_;omega⟩
theorem Lg{A:aaq}{C:YN}{us:List YB}{kw:List (Str × YB)}:(A.under (.builtin "type.__call__" ⟨.ref C::us,kw⟩)).depth=A.depth+1:=by
 first|rfl|simp[afy,Code.weight,Code.isCreation,Code.isGuard,Code.isCaller,Code.frames,Code.isFrame,guardIds]
theorem Lh{A:aaq}{C:YN}{us:List YB}{kw:List (Str × YB)}:(A.under (.builtin "type.__call__" ⟨.ref C::us,kw⟩)).units=A.units+1:=by
 first|rfl|simp[afy,Code.cUnits,Code.frames,Code.isFrame]
theorem bD.make(r:bD (k+1) A)(C:YN)(us:List YB)(kw:List (Str × YB)):bD k (A.under (.builtin "type.__call__" ⟨.ref C::us,kw⟩)) :=
 ⟨r.hd,by have:=r.dp;rw[Lg];omega,by have:=r.un;rw[Lh];omega⟩
theorem bD.depth(r:bD k A):A.depth<recursionLimit:=by have:=r.dp;omega
theorem bD.units(r:bD k A):A.units+64<adi:=by have:=r.un;omega
def tY:TA:=λ_ H Q=>Q [] H
def wV(ta:TE)(tr:TA):TA:=λσ H Q=>ta σ H λx H1=>tr σ H1 λxs H2=>Q (x::xs) H2
section
theorem ag:PA X [] tY:=λ_ _ _ _ H Q I h=>aaE ⟨[],H,I,.nil,h⟩
theorem ae(ha:PE X e te)(hr:PA X es t)(hs:Y2 (e::es) X.env=(false,eval e X.env)::Y2 es X.env:=by rfl):PA X (e::es) (wV te t):=by
 intro pos pins s σ H Q I h;rw[hs];show YT _ _ (spliced ((false,eval e X.env)::aaC pos (Y2 es X.env))) _ _ s;refine aav (aD (ha pins s σ H _ I h) λu s1 zq=>?_);obtain⟨x,H1,I1,r1,q1⟩:=zq;exact aD (hr pos pins s1 σ H1 _ I1 q1) λus s2 ⟨xs,H2,I2,r2,q2⟩=>⟨x::xs,H2,I2,.cons r1 r2,q2⟩
def Cp(t:TA):TE:=λσ H Q=>t σ H λxs H1=>xs.length<=Y0/\∀ p,H1 p=none->Q (.ref p) (upd H1 p (.tup xs))
def Cq(t:TA):TE:=λσ H Q=>t σ H λxs H1=>xs.length<=Y0/\∀ p,H1 p=none->Q (.ref p) (upd H1 p (.lst xs))
theorem bb(h:PA X es t):PE X (.Tuple es x1 pos) (Cp t):=by intro pins s σ H Q I hq;refine wpAny_Tuple_spliced (aD (h pos pins s σ H _ I hq) λus s1 ⟨xs,H1,I1,r,z,q⟩=>⟨by rw[<- r.length];exact z,?_⟩);have hf:H1 s1.heap.objs.size=none:=I1.ao.fresh (YD _);refine⟨.ref s1.heap.objs.size,upd H1 s1.heap.objs.size (.tup xs),I1.laid (t':=s1.toks) (λb u e=>Yy _ e) (YD _) ?_,rfl,q _ hf⟩;exact⟨z,us,r,⟨_,YH _ rfl,rfl,_,rfl⟩⟩
theorem dB(h:PA X es t):PE X (.List es pos) (Cq t):=by intro pins s σ H Q I hq;refine wpAny_List_spliced (aD (h pos pins s σ H _ I hq) λus s1 ⟨xs,H1,I1,r,z,q⟩=>⟨by rw[<- r.length];exact z,?_⟩);have hf:H1 s1.heap.objs.size=none:=I1.ao.fresh (YD _);refine⟨.ref s1.heap.objs.size,upd H1 s1.heap.objs.size (.lst xs),I1.laid (t':=s1.toks) (λb u e=>Yy _ e) (YD _) ?_,rfl,q _ hf⟩;exact⟨z,us,0,r,YH _ rfl⟩
end
abbrev Sp:=List V->Hp->VK->XK->Prop
abbrev gp:=List Env->Hp->YK->XK->YB->YK->Prop
structure kM(P:Zy)(w:aaa)(K:Yu)(mg:Str->Option YB)(base:aa4)(A:aaq)(outer:List Env)(s:YK)(H:Hp):Prop where
 frames:A.frames=some outer
 mod:Mod K mg base
 bs:∀ b o,base.get? b=some o->s.heap.get? b=some o/\H b=none
 bsz:base.objs.size<=s.heap.objs.size
 eQ:s.heap.FunFrames base outer
 frf:∀ b∈aW outer,H b=none
 ao:bN P w H s.heap
 bare:ad2 s.gens
def CE(outer:List Env)(P:Zy)(w:aaa)(H:Hp)(s:YK)(Q:VK)(u:YB)(s':YK):Prop :=
 ∃ v H',s'.os=s.os/\ad2 s'.gens/\Un (aW outer) [] H H' s.heap s'.heap/\bN P w H' s'.heap/\RelV v u/\Q v H'
def CR(CX:gp)(outer:List Env)(P:Zy)(w:aaa)(H:Hp)(s:YK)(Q:VK)(E:XK)(r:afx)(s':YK):Prop :=
 match r with
 | .ok (.ret u)=>CE outer P w H s Q u s'
 | .ok _=>False
 | .error e=>CX outer H s E e s'
structure dC(P:Zy)(w:aaa)(K:Yu)(mg:Str->Option YB)(base:aa4)(CX:gp)(k:Nat)(f:YN)(fd:abD)(ps:List Str)(sp:Sp):Prop where
 len:∀ vs H Q E,sp vs H Q E->vs.length=ps.length
 run:∀ (A:aaq) (outer:List Env) (s:YK) (H:Hp) (args:Args) (us:List YB) (vs:List V) (Q:VK) (E:XK),bD k A->kM P w K mg base A outer s H->afg s fd args (ps.zip us)->Vals vs us->sp vs H Q E ->
  abv (model P w) A (.call (.ref f) args) (CR CX outer P w H s Q E) s
theorem kM.make{P:Zy}{w:aaa}{K:Yu}{mg:Str->Option YB}{base:aa4}{A:aaq}{outer:List Env}{s:YK}{H:Hp}(e:kM P w K mg base A outer s H)(C:YN)(us:List YB)(kw:List (Str × YB)) :
 kM P w K mg base (A.under (.builtin "type.__call__" ⟨.ref C::us,kw⟩)) outer s H:=⟨by first|exact e.frames|(simpa [afy,Code.envs,Code.isFrame,pushEnvs] using e.frames),e.mod,e.bs,e.bsz,e.eQ,e.frf,e.ao,e.bare⟩
section
theorem Inv.i4(I:Inv X pins σ H s):kM X.prog X.w X.K X.mg X.base X.A X.stack s H :=
 ⟨I.ok.frames,I.ok.mod,I.bs,YE I.ok.bsz I.sz,I.stack,I.pW,I.ao,I.bare⟩
theorem Inv.after(I:Inv X pins σ H s)(h:CE X.stack X.prog X.w H s Q u s'):EP X pins σ Q u s':=by obtain⟨v,H',os,bare,un,ao,r,q⟩:=h;obtain⟨hh,g,d,t,n0⟩:=s';obtain rfl:n0=s.os:=os;exact⟨v,H',I.call (h':=hh) (g':=g) (d':=d) (t':=t) (ch:=[]) un ao bare (λb z=>absurd z (by simp)),r,q⟩
end
def tZ(sp:Sp)(dD:List V)(E:XK)(t:TA):TE:=λσ H Q=>t σ H λvs H1=>sp (vs++dD) H1 Q E
def wW(C:YN)(m:Str)(sp:Sp)(dD:List V)(E:XK)(ta:TE)(t:TA):TE:=λσ H Q=>ta σ H λx H1=>∃ a dx fs,x = .ref a/\H1 a=some (.ins C dx fs)/\fs.lookup m=none /\
 t σ H1 λvs H2=>sp (x::(vs++dD)) H2 Q E
def Cr(C:YN)(sp:Sp)(dD:List V)(E:XK)(t:TA):TE:=λσ H Q=>t σ H λvs H1=>∀ x dx,H1 x=none->H1 dx=none->dx≠x ->
 sp (.ref x::(vs++dD)) (upd (upd H1 dx (.own x)) x (.ins C dx [])) (λv H2=>v = .non/\Q (.ref x) H2) E
def Binds(K:Yu)(fd:abD)(ps:List Str)(ds:List YB):Prop :=
 ∀ (s:YK) (us:List YB),K.In s.heap->(us++ds).length=ps.length->afg s fd ⟨us,[]⟩ (ps.zip (us++ds))
theorem Binds.all{K:Yu}{fd:abD}{ps:List Str}(h:∀ us:List YB,us.length=ps.length->bindArgs fd ⟨us,[]⟩=pure (ps.zip us)):Binds K fd ps []:=λs us _ hl=>by rw[acz] at hl ⊢;exact .of_eq (h us hl)
def Passes(CX:gp)(X:Cx)(E:XK):Prop:=∀ (pins:List (YN × Obj)) (σ:St) (H:Hp) (s:YK) (e:YB) (s':YK),Inv X pins σ H s->CX X.stack H s E e s'->X.xe e s'
section
theorem wX(F:dC X.prog X.w X.K X.mg X.base CX k f fd ps sp)(hr:bD k X.A)(hb:Binds X.K fd ps ds)(hd:Vals dD ds)(hx:Passes CX X E)(I:Inv X pins σ H s)(r:Vals vs us)(h:sp (vs++dD) H Q E):YT (model X.prog X.w) X.A (call (.ref f) us) (EP X pins σ Q) X.xe s:=by
 have r2:Vals (vs++dD) (us++ds):=r.append hd;have hl:(us++ds).length=ps.length:=by rw[<- r2.length];exact F.len _ _ _ _ h
 refine ael (abM (F.run X.A X.stack s H ⟨us,[]⟩ (us++ds) (vs++dD) Q E hr I.i4 (hb s us I.bZ hl) r2 h) λr s' hq=>?_);cases r with
 | error e=>exact hx pins σ H s e s' I hq
 | ok fl =>
  cases fl with
  | ret u=>exact I.after hq
  | next=>exact aaO hq
  | brk=>exact aaO hq
  | cont=>exact aaO hq
theorem cD(F:dC X.prog X.w X.K X.mg X.base CX k f fd ps sp)(hr:bD k X.A)(hg:Gl X x)(hm:X.mg x=some (.ref f))(hk:aba X.K (.ref f)=true)(hb:Binds X.K fd ps ds)(hd:Vals dD ds)(hx:Passes CX X E)(ha:PA X (e::es) t)(gq:(x == ("__debug__" : Str))=false:=by decide)(he:Y2 (e::es) X.env=(false,eval e X.env)::Y2 es X.env:=by rfl)(c8:(aaC pos (Y2 es X.env)).any (·.1)=false:=by rfl) :
 PE X (.Call (.Name x p) (e::es) [] pos) (tZ sp dD E t):=by
 intro pins s σ H Q I h;refine ZU (nW I hg hm ?_ gq);refine acS (h₀:=X.base) I.ok.mod.kin hk (aD (ha pos pins s σ H _ I h) λus s1 ⟨vs,H1,I1,r,q⟩=>⟨I1.bZ,?_⟩) he c8;exact wX F hr hb hd hx I1 r q
theorem i5(he:PE X o ta)(c:fv X.K C)(hm:Meth X.K C m f)(F:dC X.prog X.w X.K X.mg X.base CX k f fd ps sp)(hr:bD k X.A)(hb:Binds X.K fd ps ds)(hd:Vals dD ds)(hx:Passes CX X E)(ha:PA X (e::es) t)(cc:Y2 (e::es) X.env=(false,eval e X.env)::Y2 es X.env:=by rfl)(c8:(aaC pos (Y2 es X.env)).any (·.1)=false:=by rfl)(ht:eval (.Call (.Attribute o m apos) (e::es) [] pos) X.env=(do
 let ov <- eval o X.env
 agE apos.atName
 let (f,first) <- holding [ov] (afX ov m pl)
 callWith pos f first (aaC pos (Y2 (e::es) X.env)) (afT pos (adx [] X.env))):=by rfl) :
 PE X (.Call (.Attribute o m apos) (e::es) [] pos) (wW C m sp dD E ta t):=by
 intro pins s σ H Q I h;refine ad8 (pl:=pl) (aD (he pins s σ H _ I h) λu s1 zq=>?_) ht;obtain⟨x,H1,I1,rx,a,dx,fs,ex,ea,l,q⟩:=zq;subst ex;obtain rfl:u=Y7 a:=rx;refine Ck I1 ea c hm l ?_;refine acS (first:=[.ref a]) (h₀:=X.base) I.ok.mod.kin hm.kp (aD (ha pos pins s1 σ H1 _ I1 q) λus s2 ⟨vs,H2,I2,r,q2⟩=>⟨I2.bZ,?_⟩) cc c8;exact wX (us:=.ref a::us) (vs:=.ref a::vs) F hr hb hd hx I2 (.cons rfl r) q2
theorem Cs(he:PE X o ta)(c:fv X.K C)(hm:Meth X.K C m f)(F:dC X.prog X.w X.K X.mg X.base CX k f fd ps sp)(hr:bD k X.A)(hb:Binds X.K fd ps ds)(hd:Vals dD ds)(hx:Passes CX X E)(ht:eval (.Call (.Attribute o m apos) [] [] pos) X.env=(do
 let ov <- eval o X.env
 agE apos.atName
 let (f,first) <- holding [ov] (afX ov m pl)
 callWith pos f first (aaC pos (Y2 [] X.env)) (afT pos (adx [] X.env))):=by rfl) :
 PE X (.Call (.Attribute o m apos) [] [] pos) (wW C m sp dD E ta tY):=by
 intro pins s σ H Q I h;refine ad8 (pl:=pl) (aD (he pins s σ H _ I h) λu s1 zq=>?_) ht;obtain⟨x,H1,I1,rx,a,dx,fs,ex,ea,l,q⟩:=zq;subst ex;obtain rfl:u=Y7 a:=rx;refine Ck I1 ea c hm l ?_;exact PySem.W.callWith_K0 (first:=[.ref a]) I1.bZ hm.kp (wX (us:=[.ref a]) (vs:=[.ref a]) F hr hb hd hx I1 (.cons rfl .nil) q)
structure Mk(K:Yu)(C f:YN):Prop where
 makes:ad6 K C=true
 init:ZA K (.ref C) "__init__" = some (some (.ref f))
 fn:ad4 K (.ref f)=true
 kp:aba K (.ref C)=true
theorem Li(M:Mk X.K C f)(F:dC X.prog X.w X.K X.mg X.base CX k f fd ps sp)(hr:bD (k+1) X.A)(hb:Binds X.K fd ps ds)(hd:Vals dD ds)(hx:Passes CX X E)(I:Inv X pins σ H s)(r:Vals vs us)(h:∀ x dx,H x=none->H dx=none->dx≠x->sp (.ref x::(vs++dD)) (upd (upd H dx (.own x)) x (.ins C dx [])) (λv H2=>v = .non/\Q (.ref x) H2) E) :
 YT (model X.prog X.w) X.A (call (.ref C) us) (EP X pins σ Q) X.xe s:=by
 have hq:=h (s.heap.objs.size+1) s.heap.objs.size (I.ao.fresh (acA _)) (I.ao.fresh (YD _)) (YS (abC _));have I2:=Inv.made (C:=C) I;have r2:Vals (V.ref (s.heap.objs.size+1)::(vs++dD)) (Y7 (s.heap.objs.size+1)::(us++ds)):=.cons rfl (r.append hd);have hl:(Y7 (s.heap.objs.size+1)::us++ds).length=ps.length:=by have e:=r2.length;rw[F.len _ _ _ _ hq] at e;exact e.symm
 refine ael (K7 (f:=f) I.bZ M.makes M.init (beq_iff_eq.mp M.fn) (abM (F.run _ X.stack _ _ ⟨Y7 (s.heap.objs.size+1)::us,[]⟩ (Y7 (s.heap.objs.size+1)::(us++ds)) _ _ E (hr.make C us [])
  (I2.i4.make C us []) (hb _ (Y7 (s.heap.objs.size+1)::us) I2.bZ hl) r2 hq) λr s' jJ=>?_))
 cases r with
 | error e=>exact hx pins σ _ _ e s' I2 jJ
 | ok fl =>
  cases fl with
  | ret u =>
   obtain⟨v,H',I3,rv,ev,q3⟩:=I2.after jJ;subst ev;exact⟨rv,⟨V.ref (s.heap.objs.size+1),H',I3,rfl,q3⟩⟩
  | next=>exact aaO jJ
  | brk=>exact aaO jJ
  | cont=>exact aaO jJ
theorem Lj(M:Mk X.K C f)(F:dC X.prog X.w X.K X.mg X.base CX k f fd ps sp)(hr:bD (k+1) X.A)(hg:Gl X x)(hm:X.mg x=some (.ref C))(hb:Binds X.K fd ps ds)(hd:Vals dD ds)(hx:Passes CX X E)(ha:PA X (e::es) t)(gq:(x == ("__debug__" : Str))=false:=by decide)(he:Y2 (e::es) X.env=(false,eval e X.env)::Y2 es X.env:=by rfl)(c8:(aaC pos (Y2 es X.env)).any (·.1)=false:=by rfl) :
 PE X (.Call (.Name x p) (e::es) [] pos) (Cr C sp dD E t):=by
 intro pins s σ H Q I h;refine ZU (nW I hg hm ?_ gq);refine acS (h₀:=X.base) I.ok.mod.kin M.kp (aD (ha pos pins s σ H _ I h) λus s1 ⟨vs,H1,I1,r,q⟩=>⟨I1.bZ,?_⟩) he c8;exact Li M F hr hb hd hx I1 r q
end
structure qh(N P:List Str)(sc:aeo):Prop where
 kind:sc.kind = .function
 co:sc.isCoroutine=false
 gen:sc.isGenerator=false
 nd:N.Nodup
 pre:N.take P.length=P
 par:∀ x∈P,sc.names.lookup x=some .local∨sc.names.lookup x=some .cell
 nofree:∀ y∈sc.names,y.2 ≠ .free
theorem Ct{adj:Str->Option aem}{x:Str}:∀ {binds:List (Str × YB)} {m:Str->Option YB},(∀ v,(x,v)∉binds)->aha adj binds m x=m x
 | [],_,_=>rfl
 | (n,v)::r,m,h=>by
  unfold aha;rw[Ct λw hw=>h w (Zu _ hw)];split
  .have:x≠n:=by rintro rfl;exact h v abd
   simp[this]
  .rfl
theorem Cu{adj:Str->Option aem}{x:Str}:∀ {binds:List (Str × YB)} {m:Str->Option YB},(∀ v,(x,v)∉binds)->ahb adj binds m x=m x
 | [],_,_=>rfl
 | (n,v)::r,m,h=>by
  unfold ahb;rw[Cu λw hw=>h w (Zu _ hw)];split
  .rfl
  .have:x≠n:=by rintro rfl;exact h v abd
   simp[this]
theorem Cv{adj:Str->Option aem}{x:Str}{v:YB}:∀ {P:List Str} {vs:List YB} {i:Nat} {m:Str->Option YB},P.Nodup->P[i]?=some x->vs[i]?=some v->adj x=some .local ->
 aha adj (P.zip vs) m x=some v
 | [],_,_,_,_,h,_,_=>by simp at h
 | _::_,[],_,_,_,_,h,_=>by simp at h
 | p::P,w::vs,0,m,nd,h1,h2,hk=>by simp at h1 h2;subst h1;subst h2;show aha adj ((p,w)::P.zip vs) m p=_;unfold aha;rw[Ct λv hv=>(ZY.mp nd).1 (ad9 hv).1,if_pos hk];simp
 | p::P,w::vs,i+1,m,nd,h1,h2,hk=>by show aha adj ((p,w)::P.zip vs) m x=_;unfold aha;exact Cv (i:=i) (ZY.mp nd).2 (by simpa using h1) (by simpa using h2) hk
theorem Cw{adj:Str->Option aem}{x:Str}{v:YB}:∀ {P:List Str} {vs:List YB} {i:Nat} {m:Str->Option YB},P.Nodup->P[i]?=some x->vs[i]?=some v->adj x≠some .local ->
 ahb adj (P.zip vs) m x=some v
 | [],_,_,_,_,h,_,_=>by simp at h
 | _::_,[],_,_,_,_,h,_=>by simp at h
 | p::P,w::vs,0,m,nd,h1,h2,hk=>by simp at h1 h2;subst h1;subst h2;show ahb adj ((p,w)::P.zip vs) m p=_;unfold ahb;rw[Cu λv hv=>(ZY.mp nd).1 (ad9 hv).1,if_neg hk];simp
 | p::P,w::vs,i+1,m,nd,h1,h2,hk=>by show ahb adj ((p,w)::P.zip vs) m x=_;unfold ahb;exact Cw (i:=i) (ZY.mp nd).2 (by simpa using h1) (by simpa using h2) hk
noncomputable def start(N:List Str)(vs:List V):St:=vs.map some++Zp (N.length-vs.length) none
noncomputable def eF(CX:gp)(P:Zy)(w:aaa)(K:Yu)(mg:Str->Option YB)(base:aa4)(N:List Str)(qual:Str)(scope:aeo)(f:YN)(cd:YB)(A:aaq)(outer:List Env)(s:YK)(H:Hp)(E:XK):Cx where
 prog:=P
 w:=w
 K:=K
 mg:=mg
 base:=base
 A:=A.deeper (aaw qual scope s.heap.objs.size f cd)
 N:=N
 s₀:=s
 H₀:=H
 env:=aaw qual scope s.heap.objs.size f cd
 outer:=outer
 stack:=aaw qual scope s.heap.objs.size f cd::outer
 ex:=[]
 calm:=true
 fn:=λ_=>true
 pn:=[]
 xe:=λe s'=>YT (model P w) (A.deeper (aaw qual scope s.heap.objs.size f cd)) (leaving (aaw qual scope s.heap.objs.size f cd) e) (λ_ qi=>CX outer H s E e qi) (λe' qi=>CX outer H s E e' qi) s'
theorem Cy{sc:aeo}{n:Nat}{x:Str}(h:sc.names.lookup x=some .cell):∃ c,(cellsFrom n sc.names []).lookup x=some c:=by have q:=adR sc.names n [] (.inl h);exact abN.mp q
theorem Ll{CX:gp}{P:Zy}{w:aaa}{K:Yu}{mg:Str->Option YB}{base:aa4}{N ps:List Str}{qual:Str}{scope:aeo}{f:YN}{cd:YB}{A:aaq}{outer:List Env}{s s1:YK}{H:Hp}{E:XK}{us:List YB}{vs:List V}
 (S:qh N ps scope) (hd:A.handled=none) (e0:kM P w K mg base A outer s H) (hl:vs.length=ps.length) (r:Vals vs us)
 (x:InCallC s s.heap.objs.size (aha (aaw qual scope s.heap.objs.size f cd).kindOf (ps.zip us) λ_=>none) (cellsFrom (s.heap.objs.size+1) scope.names []) (ahb (aaw qual scope s.heap.objs.size f cd).kindOf (ps.zip us) λ_=>none) s1) :
 Inv (eF CX P w K mg base N qual scope f cd A outer s H E) [] (start N vs) H s1:=by
 have c8:ps.length<=N.length:=by have:=congrArg List.length S.pre;rw[ack] at this;omega
 obtain⟨h1,tk,rfl,hk⟩:=x.done;have gu:∀ b:YN,b∉(eF CX P w K mg base N qual scope f cd A outer s H E).ex:=λb z=>absurd (show b∈([]:List YN) from z) (by simp);refine⟨⟨e0.mod,S.kind,rfl,rfl,YD _,λy z c h1 h2=>?_,λy hy=>?_,λy c _ h=>?_,λ_=>hd,Around.frames_deeper e0.frames,.inr ⟨rfl,rfl⟩,λb z=>absurd z (gu b),e0.bs,e0.bsz,λb _ _=>gu b,λb z=>absurd z (gu b),e0.eQ,e0.frf⟩,
  rfl,e0.bare,Un.kept hk,⟨_,x.toInCall.ns,λi y v h1 h2 h3=>?_⟩,λy c h=>⟨_,x.cell y c h⟩,e0.ao.fresh (YD _),λy c h=>?_,λp hp=>absurd (show p∈([]:List (YN × Obj)) from hp) (by simp),e0.ao.kept hk,?_⟩
 .exact name_of_addr x.apart (aaI h1) (aaI h2)
 .have hy:scope.names.lookup y=some .cell∨scope.names.lookup y=some .free:=hy;rcases hy with hy|hy
  .exact Cy hy
  .exact absurd rfl (S.nofree _ (aaI hy))
 .exact abL (x.above y c (aaI h))
 .have hi:i<vs.length:=by
   unfold start at h2;by_cases hi:i<vs.length
   .exact hi
   .rw[ZD (by simpa using hi)] at h2;rw[Z0] at h2;split at h2<;>cases h2
  have ha:vs[i]?=some v:=by
   unfold start at h2;rw[Zx (by simpa using hi),YF] at h2;cases e:vs[i]? with
   | none=>rw[e] at h2;cases h2
   | some a=>rw[e] at h2;cases h2;rfl
  obtain⟨u,hu,rv⟩:=r.get ha;have hp:ps[i]?=some y:=by rw[<- S.pre,List.getElem?_take_of_lt (by omega)];exact h1
  have Cz:ps.Nodup:=by rw[<- S.pre];exact S.nd.sublist (List.take_sublist _ _)
  refine⟨u,rv,?_⟩;rcases S.par y (Y6 hp) with k|k
  .exact .inl ⟨k,Cv Cz hp hu k⟩
  .obtain⟨c,e⟩:=Cy (n:=s.heap.objs.size+1) k;refine .inr ⟨.inl k,c,e,?_⟩;have q:=x.cell y c e;rw[Cw Cz hp hu (by show scope.names.lookup y≠_;rw[k];decide)] at q;exact q
 .exact e0.ao.fresh (abL (x.above y c (aaI h)))
 .unfold start;show _=N.length;rw[YJ,Yw,aar];omega
theorem CA{CX:gp}{P:Zy}{w:aaa}{K:Yu}{mg:Str->Option YB}{base:aa4}{k:Nat}{f:YN}{name qual:Str}{params:Arguments}{body:List aaA}{scope:aeo}{dV kV doc pm aV ct oc:YB}{an od:Option YN}
 {i6:Array (Option YB)} {N ps:List Str} {sp:Sp} (lk:K.lookup f=some ⟨oc,od,.func (abf name qual params body scope dV kV doc pm an aV ct),i6⟩) (fi:ac1 K aV qual=true) (S:qh N ps scope)
 (len:∀ vs H Q E,sp vs H Q E->vs.length=ps.length)
 (eW:∀ (A:aaq) (outer:List Env) (s:YK) (H:Hp) (vs:List V) (Q:VK) (E:XK),bD k (A.deeper (aaw qual scope s.heap.objs.size f aV))->sp vs H Q E ->
   ∃ t,aR (eF CX P w K mg base N qual scope f aV A outer s H E) body t/\t { nx:=λ_ H'=>Q .non H',rt:=Q } (start N vs) H) :
 dC P w K mg base CX (k+1) f (abf name qual params body scope dV kV doc pm an aV ct) ps sp:=by
 refine⟨len,λA outer s H args us vs Q E hr e0 hb r kN=>?_⟩;have hl:=len _ _ _ _ kN;have KX:K.In s.heap:=e0.mod.kin.keeps λb o e=>(e0.bs b o e).1;have lim:s.heap.NoLimit:=e0.mod.nolimit.keeps λb o e=>(e0.bs b o e).1;have Lm:∀ y∈ps.zip us,scope.names.lookup y.1=some .local∨(scope.names.lookup y.1=some .cell/\((cellsFrom (s.heap.objs.size+1) scope.names []).lookup y.1).isSome=true):=λ⟨n,v⟩ hy=>by
  rcases S.par n (ad9 hy).1 with q|q
  .exact .inl q
  .exact .inr ⟨q,adR _ _ _ (.inl q)⟩
 refine codeAny_call_function hr.depth (KX _ _ lk) rfl S.co S.gen rfl (PySem.W.codeRec_of KX fi) (hb _ _ _ _ ?_);refine wpAny_newFunctionEnv_cells S.kind Lm λenv he s1 x=>?_;subst he;refine⟨lim.keeps x.toInCall.keep,codeAny_func ?_⟩;obtain⟨t,ht,hq⟩:=eW A outer s H vs Q E (hr.deeper _) kN;have I:Inv (eF CX P w K mg base N qual scope f aV A outer s H E) [] (start N vs) H s1:=Ll S hr.hd e0 hl r x;refine Zz (ht [] s1 (start N vs) H _ I hq) (λfl s' hs=>?_) λe s' hs=>hs;have fin:∀ {σ':St} {H':Hp} {v:V} {u:YB},Inv (eF CX P w K mg base N qual scope f aV A outer s H E) [] σ' H' s'->RelV v u->Q v H'->CE outer P w H s Q u s' :=
  λ{σ' H' v u} J rv q=>⟨v,H',J.os,J.bare,J.base,J.ao,rv,q⟩
 cases fl with
 | ret u =>
  obtain⟨v,σ',H',J,rv,q⟩:=hs;exact fin J rv q
 | next =>
  obtain⟨σ',H',J,q⟩:=hs;exact fin (v:=V.non) (u:=Value.none) J rfl q
 | brk =>
  obtain⟨_,_,_,q⟩:=hs;exact aaO q
 | cont =>
  obtain⟨_,_,_,q⟩:=hs;exact aaO q
section
variable{X:Cx}{x:Str}{p pos:Pos}{e:ach}{es:List ach}{t:TA}{id T:String}{r:List V->Hp->VK->Prop}
def wY(r:List V->Hp->VK->Prop)(t:TA):TE:=λσ H Q=>t σ H λvs H1=>r vs H1 Q
theorem a9(hc:dN X (.builtin id) r)(hg:Gl X x)(hm:X.mg x=none)(hv:Zn x=some (.builtin id))(ha:PA X (e::es) t)(hn:x ≠ "__name__" := by decide)(gq:(x == ("__debug__" : Str))=false:=by decide)(he:Y2 (e::es) X.env=(false,eval e X.env)::Y2 es X.env:=by rfl)(c8:(aaC pos (Y2 es X.env)).any (·.1)=false:=by rfl):PE X (.Call (.Name x p) (e::es) [] pos) (wY r t):=by intro pins s σ H Q I h;refine ZU (dR I hg hm hv ?_ hn gq);exact aa5 (aD (ha pos pins s σ H _ I h) λus s1 ⟨vs,H1,I1,r1,q1⟩=>hc pins s1 σ H1 vs us Q I1 r1 q1) he c8
theorem n4(hc:dN X (.type T) r)(hg:Gl X x)(hm:X.mg x=none)(hv:Zn x=some (.type T))(ha:PA X (e::es) t)(hn:x ≠ "__name__" := by decide)(gq:(x == ("__debug__" : Str))=false:=by decide)(he:Y2 (e::es) X.env=(false,eval e X.env)::Y2 es X.env:=by rfl)(c8:(aaC pos (Y2 es X.env)).any (·.1)=false:=by rfl):PE X (.Call (.Name x p) (e::es) [] pos) (wY r t):=by intro pins s σ H Q I h;refine ZU (dR I hg hm hv ?_ hn gq);exact Za (aD (ha pos pins s σ H _ I h) λus s1 ⟨vs,H1,I1,r1,q1⟩=>hc pins s1 σ H1 vs us Q I1 r1 q1) he c8
end
end L2
namespace HT
open PySem PyProof.Rows
noncomputable def lexLt:List Int->List Int->Bool
 | [],[]=>false
 | [],_::_=>true
 | _::_,[]=>false
 | x::xs,y::ys=>if x=y then lexLt xs ys else decide (x<y)
theorem kO(x y:Int)(xs ys:List Int):lexLt (x::xs) (y::ys)=if x=y then lexLt xs ys else decide (x<y):=rfl
theorem Ln:lexLt [] []=false:=rfl
section
open PySem.SeqAt
open PySem.AutoSeq1 (wpAny_loadPart')
open PySem.MeetsSeq PySem.MeetsSeq2 PySem.MeetsSeq3
end
section
noncomputable def eG(n d:Nat):Option Int->Nat
 | none=>d
 | some v=>if v<0 then (v+(n:Int)).toNat else min v.toNat n
theorem Lo(n d:Nat):eG n d none=d:=rfl
theorem Lp(n d k:Nat):eG n d (some (k:Int))=min k n:=by show (if (k:Int)<0 then ((k:Int)+(n:Int)).toNat else min (k:Int).toNat n)=min k n;rw[if_neg (by omega),Zq]
end
end HT
namespace L2
open PySem PySem.Spec PyProof.Rows
abbrev TO:=St->Hp->(Option Int->Hp->Prop)->Prop
def PO(X:Cx)(e:Option ach)(t:TO):Prop :=
 ∀ (pins:List (YN × Obj)) (s:YK) (σ:St) (H:Hp) (Q:Option Int->Hp->Prop),Inv X pins σ H s->t σ H Q ->
  YT (model X.prog X.w) X.A (evalPart e X.env) (λu s'=>∃ o H',Inv X pins σ H' s'/\IsPart u o/\Q o H') X.xe s
noncomputable def CB:TO:=λ_ H Q=>Q none H
noncomputable def CC(t:TE):TO:=λσ H Q=>t σ H λx H1=>∃ i,x = .int i/\Q (some i) H1
theorem intsAre_of:∀ {us:List YB},Vals (ns.map V.int) us->ac2 us ns:=by
 induction ns with
 | nil=>intro us r;rw[acb] at r;cases r;exact .nil
 | cons n ns ih =>
  intro us r;rw[YW] at r;cases r with
  | cons r1 r2 =>
   obtain⟨t,e⟩:=r1;subst e;exact .cons n t (ih r2)
section
variable{X:Cx}{e:ach}{te:TE}{lo hi:Option ach}{tl th:TO}{pos p2:Pos}
theorem Lq:PO X none CB:=by intro pins s σ H Q I h;rw[aeT];exact Yz ⟨none,H,I,.none,h⟩
theorem Lr(h:PE X e te):PO X (some e) (CC te):=by intro pins s σ H Q I hw;rw[evalPart_some];refine aD (h pins s σ H _ I hw) λu s1 zq=>?_;obtain⟨x,H1,I1,r1,q1⟩:=zq;obtain⟨i,rfl,q⟩:=q1;obtain⟨t,rfl⟩:=r1;exact⟨some i,H1,I1,.int i t,q⟩
def CD(X:Cx)(r:V->Option Int->Option Int->Hp->VK->Prop):Prop :=
 ∀ (pins:List (YN × Obj)) (s:YK) (σ:St) (H:Hp) (x:V) (v vl vu:YB) (lo hi:Option Int) (sl:YN) (Q:VK),Inv X pins σ H s->RelV x v->s.heap.IsSliceOf sl vl vu .none->IsPart vl lo->IsPart vu hi->r x lo hi H Q ->
  ∃ T id,afh (.type T) "__getitem__" = pure (some (.builtin id))/\s.TypeIs v T/\YT (model X.prog X.w) X.A (afY v (.ref sl)) (EP X pins σ Q) X.xe s
def CF(r:V->Option Int->Option Int->Hp->VK->Prop)(te:TE)(tl th:TO):TE:=λσ H Q=>te σ H λx H1=>tl σ H1 λl H2=>th σ H2 λu H3=>r x l u H3 Q
theorem Ls{r:V->Option Int->Option Int->Hp->VK->Prop}(hr:CD X r)(he:PE X e te)(hl:PO X lo tl)(hu:PO X hi th):PE X (.Subscript e (.Slice lo hi none p2) pos) (CF r te tl th):=by intro pins s σ H Q I h;refine afi (aD (he pins s σ H _ I h) λv s1 zq=>?_);obtain⟨x,H1,I1,r1,q1⟩:=zq;refine wpAny_Slice (aD (hl pins s1 σ H1 _ I1 q1) λvl s2 ⟨l,H2,I2,pl,q2⟩=>aD (hu pins s2 σ H2 _ I2 q2) λvu s3 zq=>?_);obtain⟨u,H3,I3,pu,q3⟩:=zq;rw[aeT];refine Yz ?_;have I4:Inv X pins σ H3 { s3 with heap:=s3.heap.push { cls:=.type "slice",data:=.fields #[vl,vu,.none] } }:=I3.kept (t':=s3.toks) λb ob q=>Yy _ q;obtain⟨T,id,hT,ht,hg⟩:=hr pins { s3 with heap:=s3.heap.push { cls:=.type "slice",data:=.fields #[vl,vu,.none] } } σ H3 x v vl vu l u s3.heap.objs.size Q I4 r1 (Heap.IsSliceOf.new ..) pl pu q3;show YT (model X.prog X.w) X.A (ady e (.Slice lo hi none p2) v (.ref s3.heap.objs.size)) (EP X pins σ Q) X.xe { s3 with heap:=s3.heap.push { cls:=.type "slice",data:=.fields #[vl,vu,.none] } };exact tail_any (ops:=[.ref s3.heap.objs.size,v]) ht hT hg (by with_unfolding_all rfl)
noncomputable def mx(xs:List V)(lo hi:Option Int):List V:=(xs.drop (HT.eG xs.length 0 lo)).take (HT.eG xs.length xs.length hi-HT.eG xs.length 0 lo)
theorem Lu(xs:List V)(lo hi:Option Int):(mx xs lo hi).length<=xs.length:=by unfold mx;rw[ack,adK];omega
end
noncomputable def gJ(n:Nat)(i:Int):Option Nat:=if 0<=i then (if i<n then some i.toNat else none) else if -(n:Int)<=i then some (i+n).toNat else none
noncomputable def cE{α:Type}(xs:List α)(i:Int):Option α:=(gJ xs.length i).bind λj=>xs[j]?
theorem CG(h:gJ n i=some j):seqIndex? i n=some j/\j<n/\-(n:Int)<=i/\i<n:=by
 unfold gJ at h;by_cases h0:0<=i
 .rw[if_pos h0] at h;by_cases h1:i<n
  .rw[if_pos h1] at h;have e:i.toNat=j:=Option.some.inj h;exact⟨by rw[afZ h0 h1,e],by omega,by omega,h1⟩
  .rw[if_neg h1] at h;cases h
 .rw[if_neg h0] at h;by_cases h1 : -(n:Int)<=i
  .rw[if_pos h1] at h;have e:(i+n).toNat=j:=Option.some.inj h;exact⟨by rw[afz (by omega) h1,e],by omega,h1,by omega⟩
  .rw[if_neg h1] at h;cases h
theorem wZ(h:cE xs i=some v):∃ j,seqIndex? i xs.length=some j/\xs[j]?=some v/\j<xs.length/\-(xs.length:Int)<=i/\i<xs.length:=by
 unfold cE at h;cases e:gJ xs.length i with
 | none=>rw[e] at h;cases h
 | some j =>
  rw[e] at h;obtain⟨h1,h2,h3,h4⟩:=CG e;exact⟨j,h1,h,h2,h3,h4⟩
theorem cF{α:Type}{xs:List α}{j:Nat}{v:α}(h:xs[j]?=some v):cE xs (j:Int)=some v:=by
 have hj:j<xs.length:=(YC.mp h).1;have e:gJ xs.length (j:Int)=some j:=by unfold gJ;rw[if_pos (by omega),if_pos (by omega)];simp
 unfold cE;rw[e];exact h
theorem t4(xs:List α)(v:α):cE (xs++[v]) (-1)=some v:=by
 have hl:(xs++[v]).length=xs.length+1:=by simp
 have e:gJ (xs++[v]).length (-1)=some xs.length:=by
  unfold gJ;rw[hl,if_neg (by decide),if_pos (by omega)]
  congr 1
  omega
 unfold cE;rw[e];show (xs++[v])[xs.length]?=some v;simp
def w5(b:ach):Prop:=∀ o i,subscripted b false o i=operate [o,i] (afY o i)
def i7(X:Cx)(r:R2):Prop :=
 ∀ (value slice:ach) (pins:List (YN × Obj)) (s:YK) (σ:St) (H:Hp) (x y:V) (v u:YB) (Q:VK),Inv X pins σ H s->RelV x v->RelV y u->r x y H Q ->
  subscripted slice false v u=operate [v,u] (afY v u)->YT (model X.prog X.w) X.A (ady value slice v u) (EP X pins σ Q) X.xe s
def t5(X:Cx)(id:String)(r:V->List V->Hp->VK->Prop):Prop :=
 ∀ (pins:List (YN × Obj)) (s:YK) (σ:St) (H:Hp) (x:V) (xs:List V) (v:YB) (us:List YB) (Q:VK),Inv X pins σ H s->RelV x v->Vals xs us->r x xs H Q ->
  YT (model X.prog X.w) X.A (call (.builtin id) (v::us)) (EP X pins σ Q) X.xe s
section
variable{X:Cx}{a b:ach}{ta tb:TE}{pos:Pos}
theorem i7.or(h:i7 X r)(h':i7 X r'):i7 X (λx y H Q=>r x y H Q∨r' x y H Q):=by
 intro value slice pins s σ H x y v u Q I rx ry q hs;rcases q with q|q
 .exact h value slice pins s σ H x y v u Q I rx ry q hs
 .exact h' value slice pins s σ H x y v u Q I rx ry q hs
theorem bf(hr:i7 X r)(ha:PE X a ta)(hb:PE X b tb)(hs:w5 b):PE X (.Subscript a b pos) (mv r ta tb):=by intro pins s σ H Q I h;exact afi (wL ha hb I h λv u s2 x y H2 I2 rx ry q=>hr a b pins s2 σ H2 x y v u Q I2 rx ry q (hs _ _))
def CH(K:Yu):R2:=λx y H Q=>∃ p xs i v,x = .ref p/\y = .int i/\ah K H p xs/\cE xs i=some v/\Q v H
def CI(K:Yu):R2:=λx y H Q=>∃ p xs i v,x = .ref p/\y = .int i/\aj K H p xs/\cE xs i=some v/\Q v H
def CJ:R2:=λx y H Q=>∃ z i c,x = .str z/\y = .int i/\z.length<=Y0/\cE z.cps.toList i=some c/\Q (.str ⟨#[c]⟩) H
theorem Lv:i7 X (CH X.K):=by
 intro value slice pins s σ H x y v u Q I rx ry h hs;obtain⟨p,xs,i,z,rfl,rfl,hq,he,q⟩:=h;cases rx;obtain⟨t,rfl⟩:=ry;obtain⟨ai,r,pl,hz⟩:=I.list hq;obtain⟨j,h1,h2,h3,h4,h5⟩:=wZ he;obtain⟨w,ew,ie⟩:=r.get h2;have hl:=r.length;have hn:=qg;have fin:EP X pins σ Q w s:=⟨z,H,I,ie,q⟩
 by_cases h0:0<=i
 .have hj:i.toNat=j:=by rw[afZ h0 h5] at h1;exact Option.some.inj h1
  exact item_listR pl.isList h0 (by omega) (by rw[hj];simpa using ew) fin hs
 .have hj:(i+(ai.toArray.size:Int)).toNat=j:=by rw[afz (by omega) h4] at h1;rw[YI,<- hl];exact Option.some.inj h1
  exact adS (x:=w) pl.isList.typeIs slot_list_getitem.lookup
   (wpAny_getItem_list_neg (Q:=λr s'=>r=w/\EP X pins σ Q r s') pl.isList (by omega) (by rw[YI]<;>omega) (by omega) (by rw[hj];simpa using ew) ⟨rfl,fin⟩) hs
theorem Lw:i7 X (CI X.K):=by
 intro value slice pins s σ H x y v u Q I rx ry h hs;obtain⟨p,xs,i,z,rfl,rfl,hq,he,q⟩:=h;cases rx;obtain⟨t,rfl⟩:=ry;obtain⟨ai,r,pl,hz⟩:=I.tuple hq;obtain⟨j,h1,h2,h3,h4,h5⟩:=wZ he;obtain⟨w,ew,ie⟩:=r.get h2;have hl:=r.length;have hn:=qg;have fin:EP X pins σ Q w s:=⟨z,H,I,ie,q⟩
 exact adS (x:=w) pl.typeIs slot_tuple_getitem.lookup
  (getItem_tuple (j:=j) (Q:=λr s'=>r=w/\EP X pins σ Q r s') pl (by omega) (by omega) (by rw[YI,<- hl];exact h1) (by simpa using ew) ⟨rfl,fin⟩) hs
theorem Lx:i7 X CJ:=by
 intro value slice pins s σ H x y v u Q I rx ry h hs;obtain⟨z,i,c,rfl,rfl,hz,he,q⟩:=h;obtain⟨t,rfl⟩:=rx;obtain⟨t',rfl⟩:=ry;obtain⟨j,h1,h2,h3,h4,h5⟩:=wZ he;have hl:z.cps.toList.length=z.length:=by simp[Str.length]
 rw[hl] at h1 h4 h5;have hn:=qg;exact tail_any (typeIs_str s z t) slot_str_getitem.lookup (getItem_str (c:=c) (by
  have e1:decide (i < -(2 ^ 63:Int))=false:=decide_eq_false (by omega);have e2:decide (i ≥ 2 ^ 63)=false:=decide_eq_false (by omega);rw[e1,e2,agF]) (by rw[h1];simpa using h2) ⟨.str ⟨#[c]⟩,H,I.tok _,⟨_,rfl⟩,q⟩) hs
def jK(K:Yu):R2:=λx y H Q=>CH K x y H Q∨CI K x y H Q∨CJ x y H Q
theorem bh:i7 X (jK X.K):=Lv.or (Lw.or Lx)
theorem Ly(ai:List YB)(n j:Nat)(u:YB):Zg (·.setIfInBounds j u) { cls:=.type "list",data:=.seq ai.toArray n } = { cls:=.type "list",data:=.seq (ai.set j u).toArray n }:=by simp[Zg]
theorem Inv.lst(I:Inv X pins σ H s)(h:H p=some (.lst xs)) :
 ∃ (ai:List YB) (n:Nat),Vals xs ai/\s.heap.get? p=some { cls:=.type "list",data:=.seq ai.toArray n }/\xs.length<=Y0:=by
 obtain⟨z,ai,n,r,e⟩:=I.ao p _ h;exact⟨ai,n,r,e,z⟩
theorem Inv.Lz{pins:List (YN × Obj)}{σ:St}{H:Hp}{s:YK}{p:YN}{xs ys:List V}{ai its':List YB}{n n':Nat}{f:Obj->Obj}(I:Inv X pins σ H s)(h:H p=some (.lst xs))
 (ho:s.heap.get? p=some { cls:=.type "list",data:=.seq ai.toArray n }) (hf:f { cls:=.type "list",data:=.seq ai.toArray n } = { cls:=.type "list",data:=.seq its'.toArray n' }) (r:Vals ys its') (hz:ys.length<=Y0) (t:Nat) :
 Inv X pins σ (upd H p (.lst ys)) { s with heap:=s.heap.update p f,toks:=t }:=by
 have e:(s.heap.update p f).get? p=some { cls:=.type "list",data:=.seq its'.toArray n' }:=by rw[Zo f ho (by rw[hf]<;>rfl),hf]
 refine I.write (x:=p) (e:=p) (by rw[h];trivial) (.inl rfl) (λb u hb q=>(YM _ _ (Zt hb)).trans q) ⟨_,e⟩ ?_;exact⟨hz,its',n',r,e⟩
def CK:V->V->V->Hp->(Hp->Prop)->Prop:=λo i v H Q=>∃ p xs k j,o = .ref p/\i = .int k/\H p=some (.lst xs)/\gJ xs.length k=some j/\Q (upd H p (.lst (xs.set j v)))
theorem set_list:B4 X CK:=by
 intro pins s σ H o i v ov iv u Q I ro ri rv h;obtain⟨p,xs,k,j,rfl,rfl,hp,hj,q⟩:=h;cases ro;obtain⟨t,rfl⟩:=ri;obtain⟨ai,n,r,ho,hz⟩:=I.lst hp;obtain⟨h1,h2,h3,h4⟩:=CG hj;have hl:=r.length;have hn:=qg;have I':Inv X pins σ (upd H p (.lst (xs.set j v))) { s with heap:=s.heap.update p (Zg (·.setIfInBounds j u)) } :=
  I.Lz hp ho (Ly ai n j u) (r.set rv j) (by rw[aea];exact hz) s.toks
 by_cases h0:0<=k
 .have hk:k.toNat=j:=by rw[afZ h0 h4] at h1;exact Option.some.inj h1
  exact PySem.W.ki_setAt ho h0 (by omega) (by rw[YI,<- hl];exact h4) (by rw[hk];exact⟨_,I',q⟩)
 .have hk:(k+(ai.toArray.size:Int)).toNat=j:=by rw[afz (by omega) h3] at h1;rw[YI,<- hl];exact Option.some.inj h1
  exact PySem.W.ki_setBack ho (by omega) (by rw[YI,<- hl];exact h3) (by omega) (by rw[hk];exact⟨_,I',q⟩)
theorem LA(lo hi:Option Int)(n:Nat):(abI lo hi none n).1=((HT.eG n 0 lo:Nat):Int)/\(abI lo hi none n).2.1=((HT.eG n n hi:Nat):Int)/\(abI lo hi none n).2.2=1:=by
 refine⟨?_,?_,rfl⟩
 .cases lo with
  | none=>simp[abI,HT.eG]
  | some i =>
   simp only[abI,HT.eG,Option.getD_none,show (1:Int) > 0 by decide,if_true];by_cases h:i<0
   .simp only[h,if_true]<;>omega
   .simp only[h,if_false]<;>omega
 .cases hi with
  | none=>simp[abI,HT.eG]
  | some i =>
   simp only[abI,HT.eG,Option.getD_none,show (1:Int) > 0 by decide,if_true];by_cases h:i<0
   .simp only[h,if_true]<;>omega
   .simp only[h,if_false]<;>omega
theorem LB(ai:List YB)(lo hi:Option Int):af0 ai.toArray lo hi none=((ai.drop (HT.eG ai.length 0 lo)).take (HT.eG ai.length ai.length hi-HT.eG ai.length 0 lo)).toArray:=by obtain⟨h1,h2,h3⟩:=LA lo hi ai.toArray.size;unfold af0;rw[h1,h2,h3];simp only[sliceRange_one,pick_run,YI]<;>rfl
def CL(K:Yu):V->Option Int->Option Int->Hp->VK->Prop:=λx lo hi H Q=>∃ a xs,x = .ref a/\ah K H a xs/\∀ p,H p=none->Q (.ref p) (upd H p (.lst (mx xs lo hi)))
theorem LC:CD X (CL X.K):=by intro pins s σ H x v vl vu lo hi sl Q I rx hs pl pu h;obtain⟨a,xs,rfl,hx,q⟩:=h;cases rx;obtain⟨ai,r,ht,hz⟩:=I.list hx;have hlen:=r.length;refine⟨"list",_,slot_list_getitem.lookup,ht.isList.typeIs,?_⟩;refine adk ht.isList hs pl pu .none (by simp) ?_ (by rw[YI]<;>omega);rw[LB,<- hlen];refine⟨.ref s.heap.objs.size,_,I.laid (t':=s.toks) (o:=.lst (mx xs lo hi)) (λb ob q=>Yy _ q) (YD _) ?_,rfl,q _ (I.ao.fresh (YD _))⟩;exact⟨YE (Lu xs lo hi) hz,_,0,(r.drop (HT.eG xs.length 0 lo)).take (HT.eG xs.length xs.length hi-HT.eG xs.length 0 lo),YH _ rfl⟩
noncomputable def i8:V->Bool
 | .non=>true
 | .bl _=>true
 | .int _=>true
 | .str _=>true
 | _=>false
noncomputable def i9:V->V->Bool
 | .non,.non=>true
 | .bl a,.bl b=>a == b
 | .bl a,.int b=>(if a then 1 else 0) == b
 | .int a,.bl b=>a == (if b then 1 else 0)
 | .int a,.int b=>a == b
 | .str a,.str b=>a == b
 | _,_=>false
theorem LD(ry:RelV y u)(rx:RelV x v)(fy:i8 y=true)(fx:i8 x=true):SeqAt.EqAt A s u v (i9 y x):=by
 cases y with
 | non =>
  cases ry;cases x with
  | non=>cases rx;exact SeqAt.EqAt.same _
  | bl b=>cases rx;exact SeqAt.EqAt.none_bool b
  | int b=>obtain⟨t,rfl⟩:=rx;exact SeqAt.EqAt.none_int b t
  | str b=>obtain⟨t,rfl⟩:=rx;exact SeqAt.EqAt.none_str b t
  | _=>exact absurd (show false=true from fx) Y3
 | bl a =>
  cases ry;cases x with
  | non=>cases rx;exact SeqAt.EqAt.bool_none a
  | bl b=>cases rx;exact SeqAt.EqAt.bool_bool a b
  | int b=>obtain⟨t,rfl⟩:=rx;exact SeqAt.EqAt.bool_int a b t
  | str b=>obtain⟨t,rfl⟩:=rx;exact SeqAt.EqAt.bool_str a b t
  | _=>exact absurd (show false=true from fx) Y3
 | int a =>
  obtain⟨t',rfl⟩:=ry;cases x with
  | non=>cases rx;exact SeqAt.EqAt.int_none a t'
  | bl b=>cases rx;exact SeqAt.EqAt.int_bool a t' b
  | int b=>obtain⟨t,rfl⟩:=rx;exact SeqAt.EqAt.int_int a t' b t
  | str b=>obtain⟨t,rfl⟩:=rx;exact SeqAt.EqAt.int_str a t' b t
  | _=>exact absurd (show false=true from fx) Y3
 | str a =>
  obtain⟨t',rfl⟩:=ry;cases x with
  | non=>cases rx;exact SeqAt.EqAt.str_none a t'
  | bl b=>cases rx;exact SeqAt.EqAt.str_bool a t' b
  | int b=>obtain⟨t,rfl⟩:=rx;exact SeqAt.EqAt.str_int a t' b t
  | str b=>obtain⟨t,rfl⟩:=rx;exact SeqAt.EqAt.str_str a t' b t
  | _=>exact absurd (show false=true from fx) Y3
 | _=>exact absurd (show false=true from fy) Y3
noncomputable def fw(x:V)(u:YB):Bool:=match u with
 | .none=>i9 .non x
 | .bool b=>i9 (.bl b) x
 | .int i _=>i9 (.int i) x
 | .str z _=>i9 (.str z) x
 | _=>false
theorem CM(r:RelV y u)(f:i8 y=true):fw x u=i9 y x:=by
 cases y with
 | non=>cases r;rfl
 | bl b=>cases r;rfl
 | int i=>obtain⟨t,rfl⟩:=r;rfl
 | str z=>obtain⟨t,rfl⟩:=r;rfl
 | _=>exact absurd (show false=true from f) Y3
theorem qj:∀ {xs:List V} {us:List YB},Vals xs us->xs.all i8=true->us.any (fw x)=xs.any λy=>i9 y x
 | _,_,.nil,_=>rfl
 | y::xs,u::us,.cons r t,f=>by rw[aeU,aak] at f;rw[ZV,ZV,CM r f.1,qj t f.2]
theorem qk(rx:RelV x v)(fx:i8 x=true):∀ {xs:List V} {us:List YB},Vals xs us->xs.all i8=true->∀ u∈us,SeqAt.EqAt A s u v (fw x u)
 | _,_,.nil,_=>λu hu=>by cases hu
 | y::xs,u::us,.cons r t,f=>λu' hu=>by
  rw[aeU,aak] at f;rcases YV.mp hu with rfl|hu
  .rw[CM r f.1];exact LD r rx f.1 fx
  .exact qk rx fx t f.2 u' hu
noncomputable def n6(x:V)(xs:List V):Bool:=xs.any λy=>i9 y x
def t6(K:Yu)(neg:Bool):R2:=λx y H Q=>∃ p xs,y = .ref p/\(ah K H p xs∨aj K H p xs)/\i8 x=true/\xs.all i8=true/\Q (.bl (if neg then !n6 x xs else n6 x xs)) H
theorem w6:ba X (Z5 .In) (t6 X.K false):=by
 intro pins s σ H x y v u Q I rx ry h;obtain⟨p,xs,rfl,hq,fx,fs,q⟩:=h;cases ry;rcases hq with hq|hq
 .obtain⟨ai,r,pl,hz⟩:=I.list hq;refine SeqAt.in_listAt (fw x) pl.isList (λw hw=>qk rx fx r fs w (by simpa using hw)) ⟨.bl _,H,I,rfl,?_⟩;rw[show ai.toArray.any (fw x)=ai.any (fw x) by simp,qj r fs];exact q
 .obtain⟨ai,r,pl,hz⟩:=I.tuple hq;refine SeqAt.in_tupleAt (fw x) pl (λw hw=>qk rx fx r fs w (by simpa using hw)) ⟨.bl _,H,I,rfl,?_⟩;rw[show ai.toArray.any (fw x)=ai.any (fw x) by simp,qj r fs];exact q
theorem LF:ba X (Z5 .NotIn) (t6 X.K true):=by
 intro pins s σ H x y v u Q I rx ry h;obtain⟨p,xs,rfl,hq,fx,fs,q⟩:=h;cases ry;rcases hq with hq|hq
 .obtain⟨ai,r,pl,hz⟩:=I.list hq;refine SeqAt.notIn_listAt (fw x) pl.isList (λw hw=>qk rx fx r fs w (by simpa using hw)) ⟨.bl _,H,I,rfl,?_⟩;rw[show ai.toArray.any (fw x)=ai.any (fw x) by simp,qj r fs];exact q
 .obtain⟨ai,r,pl,hz⟩:=I.tuple hq;refine SeqAt.notIn_tupleAt (fw x) pl (λw hw=>qk rx fx r fs w (by simpa using hw)) ⟨.bl _,H,I,rfl,?_⟩;rw[show ai.toArray.any (fw x)=ai.any (fw x) by simp,qj r fs];exact q
theorem CN:dN X (.type "list") (λxs H Q=>∃ p ys,xs=[.ref p]/\(ah X.K H p ys∨aj X.K H p ys)/\∀ l,H l=none->Q (.ref l) (upd H l (.lst ys))):=by
 intro pins s σ H xs us Q I r h;obtain⟨p,ys,rfl,hq,q⟩:=h;obtain⟨u,rfl,rx⟩:=vals1 r;cases rx;have fin:∀ (ai:List YB),Vals ys ai->ys.length<=Y0->∀ (h':aa4) (c':Nat),(∀ b o',s.heap.get? b=some o'->h'.get? b=some o') ->
  h'.get? s.heap.objs.size=some { cls:=.type "list",dict:=none,data:=.seq ai.toArray c',slots:=#[] }->EP X pins σ Q (.ref s.heap.objs.size) { s with heap:=h' }:=λai r' hz h' c' kp e =>
  ⟨.ref s.heap.objs.size,_,I.laid (t':=s.toks) kp (YD _) (show bw X.prog X.w _ h' _ (.lst ys) from ⟨hz,ai,c',r',e⟩),rfl,q _ (I.ao.fresh (YD _))⟩
 rcases hq with hq|hq
 .obtain⟨ai,r',pl,hz⟩:=I.list hq;have hlen:=r'.length;obtain⟨o,ho,hc,n,hd⟩:=pl.isList;exact call_list_seq p (.inl rfl) ho hc hd (λh' c' kp e=>fin ai r' hz h' c' kp e) (by simp only[YI]<;>omega)
 .obtain⟨ai,r',pl,hz⟩:=I.tuple hq;have hlen:=r'.length;obtain⟨o,ho,hc,n,hd⟩:=pl;exact call_list_seq p (.inr rfl) ho hc hd (λh' c' kp e=>fin ai r' hz h' c' kp e) (by simp only[YI]<;>omega)
def t7(K:Yu)(T:String)(x:V)(H:Hp):Prop:=match x with
 | .str _=>T = "str"
 | .int _=>T = "int"
 | .ref p=>(T = "list" /\ ∃ xs,ah K H p xs)∨(T = "tuple" /\ ∃ o,K.lookup p=some o/\o.cls = .type "tuple" /\ o.dict=none) ∨
  (T = "dict" /\ ((∃ kvs,H p=some (.dK kvs)) ∨ ∃ kvs,H p=some (.dT kvs)))∨(T = "set" /\ ∃ S n,H p=some (.set S n))
 | _=>False
theorem LG(I:Inv X pins σ H s)(r:RelV x v)(ty:t7 X.K T x H) :
 s.TypeIs v T/\∀ a,v = .ref a->∃ ob,s.heap.get? a=some ob/\ob.dict=none:=by
 cases x with
 | str z =>
  obtain⟨t,rfl⟩:=r;cases (show T = "str" from ty);exact⟨typeIs_str s z t,λ_ e=>nomatch e⟩
 | int i =>
  obtain⟨t,rfl⟩:=r;cases (show T = "int" from ty);exact⟨agw s i t,λ_ e=>nomatch e⟩
 | ref p =>
  cases r;rcases ty with ⟨rfl,xs,hq⟩|⟨rfl,o,hk,hc,hd⟩|⟨rfl,hk⟩|⟨rfl,S,n,hk⟩
  .obtain⟨ai,_,pl,_⟩:=I.list hq;refine⟨pl.isList.typeIs,λa e=>?_⟩;cases e;obtain⟨o,n,e,c,hd,_⟩:=pl;exact⟨o,e,hd⟩
  .refine⟨⟨o,I.bZ p o hk,hc⟩,λa e=>?_⟩;cases e;exact⟨o,I.bZ _ o hk,hd⟩
  .have z:∃ o,s.heap.get? p=some o/\o.ExactDict:=by
    rcases hk with ⟨kvs,hk⟩|⟨kvs,hk⟩
    .obtain⟨_,_,_,_,o,_,_,e,ex,_⟩:=I.ao p _ hk;exact⟨o,e,ex⟩
    .obtain⟨_,_,_,_,o,_,_,e,ex,_⟩:=I.ao p _ hk;exact⟨o,e,ex⟩
   obtain⟨o,e,ex⟩:=z;refine⟨⟨o,e,ex.1⟩,λa e2=>?_⟩;cases e2;exact⟨o,e,ex.2.1⟩
  .obtain⟨o,_,_,_,e,ex,_⟩:=I.ao p _ hk;refine⟨⟨o,e,ex.1⟩,λa e2=>?_⟩;cases e2;exact⟨o,e,ex.2.1⟩
 | _=>exact aaO ty
def LH(K:Yu)(T:String)(r:V->List V->Hp->VK->Prop)(to:TE):TE:=λσ H Q=>to σ H λx H1=>t7 K T x H1/\r x [] H1 Q
def CO(K:Yu)(T:String)(r:V->List V->Hp->VK->Prop)(to:TE)(t:TA):TE:=λσ H Q=>to σ H λx H1=>t7 K T x H1/\t σ H1 λxs H2=>r x xs H2 Q
variable{o e:ach}{es:List ach}{to:TE}{t:TA}{name:Str}{apos cL:Pos}{T id:String}{r:V->List V->Hp->VK->Prop}
theorem ja(pa:PlainAttrs T)(slot:Slot T name id)(LI:agY (.builtin id)=pure (.type "method_descriptor"))(hm:t5 X id r)(ho:PE X o to)(ha:PA X (e::es) t)(LJ:abR o name X.env (eval o X.env)=eval o X.env:=by rfl)(LK:((aaC cL (Y2 (e::es) X.env)).all (λx=>!x.1) && (afT cL (adx [] X.env)).all (λx=>x.1.isSome)
 && decide ((e::es).length+([]:List af1).length+(if ([]:List af1).isEmpty then 0 else 1)<30))=true:=by rfl) (LL:(apos.endLine == cL.line)=true:=by rfl) (hs:Y2 (e::es) X.env=(false,eval e X.env)::Y2 es X.env:=by rfl) (LM:(aaC cL (Y2 es X.env)).any (·.1)=false:=by rfl) :
 PE X (.Call (.Attribute o name apos) (e::es) [] cL) (CO X.K T r to t):=by
 intro pins s σ H Q I h;refine wpAny_Call_method_late LJ LK LL rfl (aD (ho pins s σ H _ I h) λv s1 zq=>?_);obtain⟨x,H1,I1,r1,ty,q1⟩:=zq;obtain⟨h1,h2⟩:=LG I1 r1 ty;refine⟨T,id,pa,slot,LI,h1,h2,?_⟩;have hA:=ha cL pins s1 σ H1 _ I1 q1;rw[hs] at hA ⊢;refine adT (by show (false || (aaC cL (Y2 es X.env)).any (·.1))=false;rw[LM]<;>rfl) (acr ?_);exact aD hA λus s2 ⟨vs,H2,I2,r2,q2⟩=>hm pins s2 σ H2 x vs v us Q I2 r1 r2 q2
end
def LN(X:Cx)(id:String)(r:V->List V->Hp->VK->Prop):Prop :=
 ∀ (pins:List (YN × Obj)) (s:YK) (σ:St) (H:Hp) (x:V) (xs:List V) (v:YB) (us:List YB) (Q:VK),Inv X pins σ H s->RelV x v->Vals xs us->r x xs H Q ->
  YT (model X.prog X.w) X.A (call (.builtin id) (v::us)) (EP X pins σ Q) X.xe s
theorem Vals.one:∀ {x:V} {us:List YB},Vals [x] us->∃ u,us=[u]/\RelV x u
 | _,_,.cons r .nil=>⟨_,rfl,r⟩
theorem Vals.reverse(h:Vals xs us):Vals xs.reverse us.reverse:=by
 induction h with
 | nil=>exact .nil
 | cons r t ih=>rw[ab6,ab6];exact Vals.append ih (.cons r .nil)
section
theorem Inv.LO{ai its':List YB}{n:Nat}{f:Array YB->Array YB}{t':Nat}(I:Inv X pins σ H s)(hH:H l=some (.lst xs))
 (e:s.heap.get? l=some { cls:=.type "list",data:=.seq ai.toArray n }) (hf:f ai.toArray=its'.toArray) (hv:Vals ys its') (hz:ys.length<=Y0) :
 Inv X pins σ (upd H l (.lst ys)) { s with heap:=s.heap.update l (Zg f),toks:=t' }:=by
 have q:=adL e f;rw[hf] at q;refine I.write (x:=l) (e:=l) (by rw[hH];exact trivial) (.inl rfl) (λb' u hb hu=>(YM s.heap (Zg f) (Zt hb)).trans hu) ⟨_,q⟩ ?_;exact⟨hz,its',_,hv,q⟩
theorem Inv.LP(I:Inv X pins σ H s)(hv:Vals ys ai)(hz:ys.length<=Y0) :
 Inv X pins σ (upd H s.heap.objs.size (.lst ys)) { s with heap:=s.heap.push { cls:=.type "list",data:=.seq ai.toArray },toks:=t' } :=
 I.laid (λ_ _ q=>Yy _ q) (YD _) ⟨hz,ai,0,hv,YH _ rfl⟩
theorem Inv.fresh(I:Inv X pins σ H s):H s.heap.objs.size=none:=I.ao.fresh (YD _)
theorem Inv.w9(I:Inv X pins σ H s)(hH:H l=some (.lst xs)):xs.length<=Y0/\∃ (ai:List YB) (n:Nat),Vals xs ai/\xs.length=ai.length/\s.heap.get? l=some { cls:=.type "list",data:=.seq ai.toArray n }:=by obtain⟨z,ai,n,r,e⟩:=I.ao l _ hH;exact⟨z,ai,n,r,r.length,e⟩
def CP:V->List V->Hp->VK->Prop:=λx vs H Q=>∃ l xs y,x = .ref l/\vs=[y]/\H l=some (.lst xs)/\xs.length<Y0/\Q .non (upd H l (.lst (xs++[y])))
theorem n9:LN X "list.append" CP:=by intro pins s σ H x vs v us Q I rx rv h;obtain⟨l,xs,y,rfl,rfl,hH,hz,q⟩:=h;cases rx;obtain⟨u,rfl,ru⟩:=rv.one;obtain⟨z,ai,n,r,hl,e⟩:=I.w9 hH;refine agx aeV ⟨_,e,rfl⟩ aeE (aep _ _) (afj l ai.toArray n u (by rw[YI];omega)) ⟨e,?_⟩;refine⟨.non,_,I.LO (its':=ai++[u]) hH e (by simp) (r.append (.cons ru .nil)) ?_,rfl,q⟩;rw[YJ,YR];omega
def LQ:V->List V->Hp->VK->Prop:=λx vs H Q=>∃ l xs,x = .ref l/\vs=[]/\H l=some (.lst xs)/\Q .non (upd H l (.lst xs.reverse))
def CQ:R2:=λx y H Q=>∃ l b xs zs,x = .ref l/\y = .ref b/\H l=some (.lst xs)/\H b=some (.lst zs)/\xs.length+zs.length<=Y0/\∀ p,H p=none->Q (.ref p) (upd H p (.lst (xs++zs)))
theorem jL:ba X (abm .Add) CQ:=by
 intro pins s σ H x y v u Q I rx ry h;obtain⟨l,b,xs,zs,rfl,rfl,hH,hB,hz,q⟩:=h;cases rx;cases ry;obtain⟨z,ai,n,r,hl,e⟩:=I.w9 hH;obtain⟨z2,CS,n2,r2,bp,e2⟩:=I.w9 hB;refine PySem.P.add_list e e2 ?_ (by rw[YI,YI];omega);have ea:ai.toArray++CS.toArray=(ai++CS).toArray:=by simp
 rw[ea];exact⟨.ref _,_,I.LP (t':=s.toks) (r.append r2) (by rw[YJ];omega),rfl,q _ I.fresh⟩
end
section
set_option maxRecDepth 100000 in
end
section
end
end L2
namespace xa
open PySem PySem.W PySem.Calls PyProof.Rows
theorem LR:∀ (ns:List Int) (vs:List YB),WellAll P h vs (ns.map WData.int)->ac2 vs ns:=by
 intro ns
 induction ns with
 | nil =>
  intro vs w;rw[acb] at w;cases w;exact .nil
 | cons n ns ih =>
  intro vs w;rw[YW] at w;cases w with
  | cons a b =>
   cases a;exact .cons _ _ (ih _ b)
theorem LS{l:OpenLaw}{n:Nat}(hn:l.most=some n){P:Params}{h:aa4}{args:List WData}{vals:List YB}
 (CT:l.row.toRowW.claim.pre args=true) (LU:WellAll P h vals args) :
 ∃ a vs ns,vals=[Y7 a]/\args=[WData.list (ns.map WData.int)]/\h.get? a=some { cls:=.type "list",data:=.seq vs.toArray }/\ac2 vs ns/\ns.length<=n:=by
 have LV:WShape.hasAll [] args [.list .int]=true:=(pre_splitW CT).1;have hc:l.pre.holds [] { args:=args }=true:=(pre_splitW CT).2;obtain⟨d,r,rfl,h1,h2⟩:=hasAllW_cons LV;obtain rfl:=hasAllW_nil h2;obtain⟨xs,rfl,h3⟩:=hasW_list h1;obtain⟨ns,rfl⟩:=items_int h3;have hlen:ns.length<=n:=by
  unfold OpenLaw.pre at hc;have h4:(WTm.not (.lt (.lit (.int (n:Int))) (.len (.arg 0)))).holds [] { args:=[.list (ns.map .int)] }=true:=by have h4:=(holds_andW hc).1;rw[hn] at h4;exact h4
  have h5:=condW_of h4 (w_not (w_lt w_lit (w_len_list (w_arg rfl))));rw[Yw] at h5;refine Nat.le_of_not_lt λq=>?_;have q':(n:Int)<((ns.length:Nat):Int):=by omega
  first
   | (rw[decide_eq_true q'] at h5;exact absurd h5 (by decide))
   | (simp at h5;omega)
 cases LU with
 | cons w1 w2 =>
  cases w2;cases w1 with
  | list ho hall=>exact⟨_,_,ns,rfl,rfl,ho,LR ns _ hall,hlen⟩
theorem LW(l:OpenLaw)(args:List WData):l.row.toRowW.claim.post args (.bool true) args=true :=
 postW_of (r:=l.row.toRowW) (X:=(true == true))
  (show WShape.has [] (.bool true) .bool=true by first|rfl|decide|simp[WShape.has,WShape.arms,WShape.armsAll])
  (show (WTm.eq .res (.lit (.bool true))).value [] { args:=args,res:=some (.bool true),after:=args }=some (.bool (true == true)) from w_eq_bool (w_res rfl) w_lit) rfl
section
end
end xa
namespace L2
open PySem PySem.Spec PyProof.Rows
theorem xb:∀ {vs:List YB} {ns:List Int},ac2 vs ns->Vals (ns.map V.int) vs
 | _,_,.nil=>.nil
 | _,_,.cons n t h=>.cons ⟨t,rfl⟩ (xb h)
def CU(H:Hp):Prop:=∀ b,H b=none ∨ ∃ o xs,H b=some (.aN o (.lst xs))
theorem LX{P:Zy}{w:aaa}{K:Yu}{mg mb:Str->Option YB}{CX:gp}{k:Nat}{fa a:YN}{fd:abD}{x:Str}{sp:Sp}{s₁:YK}{vs:List YB}{ns:List Int}
 (KX:K.In s₁.heap) (my:s₁.heap.Ns Y9 mg) (hb:s₁.heap.Ns agt mb) (LY:∀ x:Str,x ≠ "__name__" -> mb x=Zn x) (LZ:s₁.heap.NoLimit) (hg:s₁.gens = #[])
 (ha:s₁.heap.get? a=some { cls:=.type "list",data:=.seq vs.toArray }) (hi:ac2 vs ns) (hl:ns.length<=Y0) (hr:bD k af2)
 (F:∀ base:aa4,K.In base->base.Ns Y9 mg->dC P w K mg base CX k fa fd [x] sp) (L6:∀ (s:YK) (u:YB),afg s fd ⟨[u],[]⟩ [(x,u)])
 (kN:∀ H:Hp,CU H->ah K H a (ns.map V.int)->sp [.ref a] H (λv _=>v = .bl true) λ_ _ _=>False)
 (kP:∀ H e s',CX [] H s₁ (λ_ _ _=>False) e s'->False) :
 abv (model P w) af2 (.call (.ref fa) ⟨[.ref a],[]⟩) (λr s'=>r = .ok (.ret (.bool true))/\OldK s₁.heap s'.heap/\s'.os=s₁.os/\ad2 s'.gens) s₁:=by
 have rv:=xb hi;have L8:=hi.length;have core:∀ H:Hp,CU H->ah K H a (ns.map V.int)->bN P w H s₁.heap->(∀ b,H b≠none->b=a)->(H a≠none->K.lookup a=none) ->
  abv (model P w) af2 (.call (.ref fa) ⟨[.ref a],[]⟩) (λr s'=>r = .ok (.ret (.bool true))/\OldK s₁.heap s'.heap/\s'.os=s₁.os/\ad2 s'.gens) s₁:=by
  intro H hO hS ao hA hK;have CV:∀ {b:YN} {o:Obj},s₁.heap.get? b=some o->H b=none->(jC s₁.heap H).get? b=some o:=λe n=>Ks e n;have gu:∀ {b:YN} {o:Obj} {es:Array aa9} {ep:Nat},s₁.heap.get? b=some o->o.data = .dict es ep->H b=none:=λ{b o es ep} e d=>by
   cases q:H b with
   | none=>rfl
   | some u =>
    have e':b=a:=hA b (by rw[q];simp);subst e';rw[ha] at e;cases e;have d':Data.seq vs.toArray _=Data.dict es ep:=d;cases d'
  have t8:∀ {b:YN} {m:Str->Option YB},s₁.heap.Ns b m->(jC s₁.heap H).Ns b m:=λ{b m} ⟨o,es,ep,e,d,r⟩=>⟨o,es,ep,CV e (gu e d),d,r⟩
  have CW:K.In (jC s₁.heap H):=λb o e=>CV (KX b o e) (by
   cases q:H b with
   | none=>rfl
   | some u =>
    have e':b=a:=hA b (by rw[q];simp);subst e';rw[hK (by rw[q];simp)] at e;cases e)
  have hM:Mod K mg (jC s₁.heap H):=⟨CW,t8 my,⟨mb,t8 hb,LY⟩,let ⟨mc,h1,h2⟩:=LZ;⟨mc,t8 h1,h2⟩⟩
  have e0:kM P w K mg (jC s₁.heap H) af2 [] s₁ H:=⟨rfl,hM,λb o e=>Kt e,ad7 (Kr _ _),trivial,λb hb=>absurd (show b∈([]:List YN) from hb) (by simp),ao,.of_eq hg⟩
  refine abM ((F _ CW (t8 my)).run af2 [] s₁ H ⟨[.ref a],[]⟩ [.ref a] [.ref a] _ _ hr e0 (L6 s₁ (.ref a)) (.cons rfl .nil) (kN H hO hS)) λr s' h=>?_;cases r with
  | error e=>exact (kP H e s' h).elim
  | ok fl =>
   cases fl with
   | next=>exact aaO h
   | brk=>exact aaO h
   | cont=>exact aaO h
   | ret u =>
    obtain⟨v,H',os,bare,un,L9,r',q⟩:=h;have q':v = .bl true:=q;subst q';obtain rfl:u=aaj true:=r';refine⟨rfl,OldK.of_keep λb o e=>?_,os,bare⟩;cases q:H b with
    | none=>exact un.keep b o e q (by intro z;exact absurd (show b∈([]:List YN) from z) (by simp)) (by simp)
    | some u =>
     rcases hO b with z|⟨ob,xs,z⟩
     .rw[q] at z;cases z
     .have z2:=un.dJ b ob _ z;obtain⟨e1,_⟩:=ao b _ z;obtain⟨e2,_⟩:=L9 b _ z2;rw[e] at e1;cases e1;exact e2
 cases hk:K.lookup a with
 | some o =>
  have e:=KX a o hk;rw[ha] at e;cases e;refine core (λ_=>none) (λ_=>.inl rfl) (.inr ⟨_,vs.toArray,_,hk,rfl,rfl,rfl,by rw[YI,L8];exact hl,by simpa using rv⟩) (λb u z=>by have z':(none:Option HO)=some u:=z;cases z') (λb z=>absurd rfl z) λz=>absurd rfl z
 | none =>
  refine core (λb=>if b=a then some (.aN { cls:=.type "list",data:=.seq vs.toArray } (.lst (ns.map V.int))) else none) (λb=>?_) (.inl (.inr ⟨{ cls:=.type "list",data:=.seq vs.toArray },if_pos rfl⟩)) (λb u z=>?_) (λb z=>?_) λ_=>hk
  .by_cases hb:b=a
   .exact .inr ⟨_,_,if_pos hb⟩
   .exact .inl (if_neg hb)
  .by_cases hb:b=a
   .have z':=(if_pos hb).symm.trans z;cases z';subst hb;exact⟨ha,by rw[Yw];exact hl,vs,_,rv,ha⟩
   .have z':=(if_neg hb).symm.trans z;cases z'
  .by_cases hb:b=a
   .exact hb
   .exact absurd (if_neg hb) z
def inClass(s:aaA)(j:Nat):aaA:=match s with
 | .ClassDef _ _ _ body _ _ _ _ _ _ _=>body.getD j (.Pass ⟨0,0,0,0⟩)
 | _=>.Pass ⟨0,0,0,0⟩
noncomputable def og(s:aaA):Arguments:=match s with
 | .FunctionDef _ a _ _ _ _ _ _ _ _=>a
 | _=>{ posonlyargs:=[],args:=[],vararg:=none,kwonlyargs:=[],kw_defaults:=[],kwarg:=none,defaults:=[] }
noncomputable def gK(s:aaA):List aaA:=match s with
 | .FunctionDef _ _ b _ _ _ _ _ _ _=>b
 | _=>[]
noncomputable def da(s:aaA):aeo:=match s with
 | .FunctionDef _ _ _ _ _ _ sc _ _ _=>sc
 | _=>{ kind:=.function,names:=[],isGenerator:=false,isCoroutine:=false }
abbrev E0:XK:=λ_ _ _=>False
structure mz(K:Yu)(x qual:Str)(st:aaA)(f:YN)(fd:abD):Prop where
 ex:∃ (oc:YB) (od:Option YN) (kV doc pm:YB) (an:Option YN) (aV ct:YB) (i6:Array (Option YB)),
  fd=abf x qual (og st) (gK st) (da st) .none kV doc pm an aV ct/\K.lookup f=some ⟨oc,od,.func fd,i6⟩/\ac1 K aV qual=true
 kp:aba K (.ref f)=true
section
variable{P:Zy}{w:aaa}{K:Yu}{mg:Str->Option YB}{base:aa4}
theorem mz.binds{x qual:Str}{st:aaA}{f:YN}{fd:abD}{ps:List Str}(F:mz K x qual st f fd)
 (h:∀ (kV doc pm:YB) (an:Option YN) (aV ct:YB) (us:List YB),us.length=ps.length->bindArgs (abf x qual (og st) (gK st) (da st) .none kV doc pm an aV ct) ⟨us,[]⟩=pure (ps.zip us)):Binds K fd ps []:=by
 obtain⟨oc,od,kV,doc,pm,an,aV,ct,i6,rfl,lk,fi⟩:=F.ex;exact .all (h kV doc pm an aV ct)
theorem t9{x qual:Str}{st:aaA}{f:YN}{oc:YB}{od an:Option YN}{i6:Array (Option YB)}{kV doc pm aV ct:YB}(l:K.lookup f=some ⟨oc,od,.func (abf x qual (og st) (gK st) (da st) .none kV doc pm an aV ct),i6⟩)
 (c:ac1 K aV qual=true) (k:aba K (.ref f)=true):mz K x qual st f (abf x qual (og st) (gK st) (da st) .none kV doc pm an aV ct):=⟨⟨oc,od,kV,doc,pm,an,aV,ct,i6,rfl,l,c⟩,k⟩
end
theorem eX(hr:bD k A):A.units+1<adi:=ZL (Nat.add_le_add_left (by decide:1<=64) _) hr.units
section
theorem pv(i:Nat)(hN:X.N[i]?=some x:=by rfl)(hv:tG X.env.scope x:=by first|exact acd rfl|exact afA (acd rfl)|exact afA (afA rfl))(hd:(x == ("__debug__" : Str))=false:=by decide)(fi:(x == ("__classdict__" : Str))=false:=by decide):PE X (.Name x pos) (wz i):=Kw hN hv hd fi
end
def ak(H H':Hp):Prop:=∀ b o,H b=some o->H' b=some o
theorem ak.refl(H:Hp):ak H H:=λ_ _ h=>h
theorem ak.trans(a:ak H H1)(b:ak H1 H2):ak H H2:=λc o h=>b c o (a c o h)
theorem ak.free(e:ak H H')(h:H' l=Option.none):H l=Option.none:=by
 cases q:H l with
 | none=>rfl
 | some o =>
  rw[e l o q] at h;cases h
theorem ak.seq{K:Yu}{H H':Hp}{a:YN}{xs:List V}(e:ak H H')(h:ah K H a xs):ah K H' a xs:=by
 rcases h with (h|⟨o,h⟩)|h
 .exact .inl (.inl (e _ _ h))
 .exact .inl (.inr ⟨o,e _ _ h⟩)
 .exact .inr h
end L2
namespace Gz
open PySem PySem.Spec PyProof.Rows L2
def Bd(n:Nat)(x:Int):Prop:=x.natAbs<2 ^ n
theorem Bd.up(h:Bd n x)(hm:n<=m):Bd m x:=YU h (acs (by decide) hm)
theorem Bd.bits(h:Bd n x):aa6 x<=n:=by
 unfold aa6;by_cases e:x=0
 .subst e;simp
 .have e0:¬ ((x == 0)=true):=by simpa using e
  rw[if_neg e0];have hn:x.natAbs≠0:=by lia
  have:=(Nat.log2_lt hn).mpr h;lia
def ql(i j:Int):Prop:=Bd 4000 i/\Bd 4000 j
theorem ql.ok(h:ql i j):IntMulOk i j :=
 IntMulOk.of_bits (YE h.1.bits (by decide)) (YE h.2.bits (by decide))
section
theorem Ma:ba X (abm .Mult) (rI ql λi j=>.int (i * j)):=tT λ_ _ _ _ _ _ _ hc q=>mul_int q hc.ok
noncomputable def jb:V->YB
 | .ref a=>.ref a
 | .ty n=>.type n
 | _=>.none
theorem Mb:dN X (.builtin "isinstance") (λxs H Q=>∃ x c t b,xs=[x,c]/\cP X.K H x t/\jb c ≠ .none/\ZC X.K t (jb c)=some b/\Q (.bl b) H):=by
 intro pins s σ H xs us Q I r h;obtain⟨x,c,t,b,rfl,ty,hc,e,q⟩:=h;obtain⟨u,v,rfl,rx,rc⟩:=vals2 r;have ev:v=jb c:=by
  cases c with
  | ref a=>exact rc
  | ty n=>exact rc
  | non=>exact absurd rfl hc
  | bl _=>exact absurd rfl hc
  | int _=>exact absurd rfl hc
  | str _=>exact absurd rfl hc
  | byt _=>exact absurd rfl hc
  | flt _=>exact absurd rfl hc
 subst ev;exact Lf I rx ty e λtk=>⟨.bl b,H,I.tok tk,rfl,q⟩
end
theorem qm{K:Yu}{t:YB}:ZC K t t=some true:=by unfold ZC;rw[if_pos (by simp)]
theorem ua{K:Yu}{a c:String}{b:Bool}(h:af3 c=true)(h2:(PySem.fastBuiltinMro a).map (·.contains (.type c))=some b)(h3:(a == c)=false):ZC K (.type a) (.type c)=some b:=by
 unfold ZC;have e:¬ ((ab3 a == ab3 c)=true):=by simp only[beq_iff_eq,Value.type.injEq];simpa using h3
 rw[if_neg e];show (if af3 c=true then abS K (.type a) (.type c) else none)=some b;rw[if_pos h];exact h2
theorem Mc{K:Yu}:ZC K (.type "int") (.type "bool")=some false:=ua (by decide +kernel) (by decide +kernel) (by decide)
theorem Md{K:Yu}:ZC K (.type "bool") (.type "int")=some true:=ua (by decide +kernel) (by decide +kernel) (by decide)
theorem Me{K:Yu}:ZC K (.type "NoneType") (.type "int")=some false:=ua (by decide +kernel) (by decide +kernel) (by decide)
theorem Mf{K:Yu}:ZC K (.type "NoneType") (.type "tuple")=some false:=ua (by decide +kernel) (by decide +kernel) (by decide)
theorem cf:Zn "len" = some (.builtin "len"):=by decide +kernel
theorem ue:Zn "min" = some (.builtin "min"):=by decide +kernel
theorem CY:Zn "max" = some (.builtin "max"):=by decide +kernel
theorem jM:Zn "isinstance" = some (.builtin "isinstance"):=by decide +kernel
theorem xf:Zn "sorted" = some (.builtin "sorted"):=by decide +kernel
theorem xg:Zn "any" = some (.builtin "any"):=by decide +kernel
theorem CZ:Zn "all" = some (.builtin "all"):=by decide +kernel
theorem C0:Zn "sum" = some (.builtin "sum"):=by decide +kernel
theorem Mg:Zn "int" = some (.type "int"):=by decide +kernel
theorem Mh:Zn "bool" = some (.type "bool"):=by decide +kernel
theorem uf:Zn "str" = some (.type "str"):=by decide +kernel
theorem oh:Zn "list" = some (.type "list"):=by decide +kernel
theorem C1:Zn "tuple" = some (.type "tuple"):=by decide +kernel
theorem C2:Zn "enumerate" = some (.type "enumerate"):=by decide +kernel
theorem Mi:Zn "zip" = some (.type "zip"):=by decide +kernel
theorem Mj:Zn "reversed" = some (.type "reversed"):=by decide +kernel
noncomputable def xh:V->V->Option Bool
 | .int _,.ty n=>if n = "int" then some true else if n = "bool" then some false else none
 | .bl _,.ty n=>if n = "int" then some true else if n = "bool" then some true else none
 | .non,.ty n=>if n = "int" then some false else if n = "tuple" then some false else none
 | _,_=>none
def gL(K:Yu)(x c:V)(H:Hp)(Q:VK):Prop:=match xh x c with
 | some b=>Q (.bl b) H
 | none=>∃ t b,cP K H x t/\jb c ≠ .none/\ZC K t (jb c)=some b/\Q (.bl b) H
section
theorem mC:dN X (.builtin "isinstance") (λxs H Q=>∃ x c,xs=[x,c]/\gL X.K x c H Q):=by
 intro pins s σ H xs us Q I r h;obtain⟨x,c,rfl,h⟩:=h;refine Mb pins s σ H _ us Q I r ?_;cases e:xh x c with
 | none =>
  unfold gL at h;rw[e] at h;obtain⟨t,b,h1,h2,h3,h4⟩:=h;exact⟨x,c,t,b,rfl,h1,h2,h3,h4⟩
 | some b =>
  unfold gL at h;rw[e] at h;unfold xh at e;split at e
  .rename_i i n;split at e
   .rename_i z;subst z;cases e;exact⟨_,_,_,_,rfl,cP.int i,(λz=>nomatch z),qm,h⟩
   .split at e
    .rename_i z;subst z;cases e;exact⟨_,_,_,_,rfl,cP.int i,(λz=>nomatch z),Mc,h⟩
    .cases e
  .rename_i i n;split at e
   .rename_i z;subst z;cases e;exact⟨_,_,_,_,rfl,cP.bl i,(λz=>nomatch z),Md,h⟩
   .split at e
    .rename_i z;subst z;cases e;exact⟨_,_,_,_,rfl,cP.bl i,(λz=>nomatch z),qm,h⟩
    .cases e
  .rename_i n;split at e
   .rename_i z;subst z;cases e;exact⟨_,_,_,_,rfl,cP.non,(λz=>nomatch z),Me,h⟩
   .split at e
    .rename_i z;subst z;cases e;exact⟨_,_,_,_,rfl,cP.non,(λz=>nomatch z),Mf,h⟩
    .cases e
  .cases e
end
section
variable{K:Yu}{H:Hp}{Q:VK}{i:Int}{b:Bool}{p:YN}{xs:List V}
theorem Ml:gL K (.int i) (.ty "int") H Q=Q (.bl true) H:=rfl
theorem Mm:gL K (.int i) (.ty "bool") H Q=Q (.bl false) H:=rfl
theorem Mn:gL K (.bl b) (.ty "int") H Q=Q (.bl true) H:=rfl
theorem Mo:gL K (.bl b) (.ty "bool") H Q=Q (.bl true) H:=rfl
theorem Mp:gL K .non (.ty "int") H Q=Q (.bl false) H:=rfl
theorem Mq:gL K .non (.ty "tuple") H Q=Q (.bl false) H:=rfl
theorem C3(h:H p=some (.tup xs))(q:Q (.bl true) H):gL K (.ref p) (.ty "tuple") H Q:=⟨_,_,cP.tup h,(λz=>nomatch z),qm,q⟩
theorem C4(h:H p=some (.lst xs))(q:Q (.bl true) H):gL K (.ref p) (.ty "list") H Q:=⟨_,_,cP.lst h,(λz=>nomatch z),qm,q⟩
end
def de(P:Zy)(w:aaa):gp:=λouter H s E e s' =>
 ∃ (x:YN) (cls a0:YB) (H':Hp) (B:aa4),e = .ref x/\s'.os=s.os/\ad2 s'.gens/\Un (aW outer) [] H H' s.heap s'.heap /\
  (∀ b o,s.heap.get? b=some o->H b=none->b∉aW outer->B.get? b=some o)/\(∀ b o,s.heap.get? b=some o->b∉aW outer->∃ o',B.get? b=some o')/\bN P w H' B/\H' x=none/\s.heap.get? x=none /\
  afB B outer x cls a0 s'.heap/\E cls none H'
theorem bX:Passes (de P w) X E0:=by rintro _ _ _ _ _ _ _ ⟨_,_,_,_,_,_,_,_,_,_,_,_,_,_,_,h⟩;exact h.elim
theorem C5(h:de P w outer H s (λ_ _ _=>False) e s'):False:=by obtain⟨_,_,_,_,_,_,_,_,_,_,_,_,_,_,_,h⟩:=h;exact h
section
variable{P:Zy}{w:aaa}{K:Yu}{mg:Str->Option YB}{base:aa4}
theorem okN{x qual:Str}{st:aaA}{f:YN}{fd:abD}{N ps:List Str}{k:Nat}{sp:Sp}(F:mz K x qual st f fd)(S:qh N ps (da st))(len:∀ vs H Q E,sp vs H Q E->vs.length=ps.length)
 (eW:∀ (aV:YB) (A:aaq) (outer:List Env) (s:YK) (H:Hp) (vs:List V) (Q:VK) (E:XK),bD k (A.deeper (aaw qual (da st) s.heap.objs.size f aV))->sp vs H Q E ->
   ∃ t,aR (eF (de P w) P w K mg base N qual (da st) f aV A outer s H E).nX (gK st) t/\t { nx:=λ_ H'=>Q .non H',rt:=Q } (start N vs) H):dC P w K mg base (de P w) (k+1) f fd ps sp:=by
 obtain⟨oc,od,kV,doc,pm,an,aV,ct,i6,rfl,lk,fi⟩:=F.ex;refine CA lk fi S len λA outer s H vs Q E hr kN=>?_;obtain⟨t,h,q⟩:=eW aV A outer s H vs Q E hr kN;exact⟨t,h.nX,q⟩
end
theorem Mr(a b:Int):jH (.int a) (.int b)=true:=rfl
theorem Ms(a b:Bool):jH (.bl a) (.bl b)=true:=rfl
theorem Mt(a:Int):jH (.int a) .non=true:=rfl
theorem Mu(a:Int):jH .non (.int a)=true:=rfl
theorem Mv:jH .non .non=true:=rfl
theorem ite_tt:(if true=true then A else B)=A:=if_pos rfl
theorem ite_ff:(if false=true then A else B)=B:=if_neg Y3
theorem Mw{CX:gp}{P:Zy}{w:aaa}{K:Yu}{mg:Str->Option YB}{base:aa4}{N:List Str}{qual:Str}{scope:aeo}{f:YN}{cd:YB}{A:aaq}{outer:List Env}{s:YK}{H:Hp}{E:XK} :
 (eF CX P w K mg base N qual scope f cd A outer s H E).K=K:=rfl
theorem Mx{CX:gp}{P:Zy}{w:aaa}{K:Yu}{mg:Str->Option YB}{base:aa4}{N:List Str}{qual:Str}{scope:aeo}{f:YN}{cd:YB}{A:aaq}{outer:List Env}{s:YK}{H:Hp}{E:XK} :
 (eF CX P w K mg base N qual scope f cd A outer s H E).N=N:=rfl
section
variable{K:Yu}{H H':Hp}{a p:YN}{xs ys:List V}{i:Int}{v:V}{Q:VK}
theorem dE(e:ak H H')(h:aj K H a xs):aj K H' a xs:=by
 rcases h with (h|⟨o,h⟩)|h
 .exact .inl (.inl (e _ _ h))
 .exact .inl (.inr ⟨o,e _ _ h⟩)
 .exact .inr h
theorem ax(h:H p=none):ak H (upd H p o):=λb u e=>by rw[aC (hJ e h)];exact e
theorem aq(h:aj K H p xs)(e:cE xs i=some v)(q:Q v H):jK K (.ref p) (.int i) H Q:=.inr (.inl ⟨p,xs,i,v,rfl,rfl,h,e,q⟩)
theorem bq(h:ah K H p xs)(e:cE xs i=some v)(q:Q v H):jK K (.ref p) (.int i) H Q:=.inl ⟨p,xs,i,v,rfl,rfl,h,e,q⟩
theorem dO(h:ah K H p xs):tV K (.ref p) H xs.length:=.inl ⟨xs,h,rfl⟩
theorem oi(h:aj K H p xs):tV K (.ref p) H xs.length:=.inr ⟨xs,h,rfl⟩
end
noncomputable def isWhole:V->Bool
 | .int _=>true
 | _=>false
def FJ(J:It)(g:TG)(tb:TS)(D:Ends)(σ:L2.St)(H:Hp):Prop:=∃ W:Nat->Nat->L2.St->Hp->Prop,(∃ m,W 0 m σ H)/\∀ i m σ H,W i m σ H ->
 (J.stop i H/\D.nx σ H)∨(J.go i H/\∃ N:L2.St->Hp->Prop,(∀ σ' H',N σ' H'->∃ m',m'<m/\W (i+1) m' σ' H')/\∀ x H',J.yld i H x H'->g x σ H' λσ2 H2=>tb { D with nx:=N,ct:=N,bk:=D.nx } σ2 H2)
section
variable{K:Yu}{g:TG}{tb:TS}{D:Ends}{σ:L2.St}{H:Hp}{a:YN}{xs:List V}{lo:Int}{n:Nat}
theorem My:ic (wF ta) g tb D σ H=ta σ H (λvs H1=>∃ j:Int,vs=[.int j]/\-(2 ^ 62)<=j/\j<2 ^ 62/\FJ (eU 0 j.toNat) g tb D σ H1):=rfl
theorem Mz{tl:TE}:ic (wC K tl) g tb D σ H=tl σ H (λx H1=>∃ a,x = .ref a/\(∃ xs,ah K H1 a xs)/\FJ (iY K a) g tb D σ H1):=rfl
theorem MA{tl:TE}:ic (wD K tl) g tb D σ H=tl σ H (λx H1=>∃ a,x = .ref a/\(∃ xs,aj K H1 a xs)/\FJ (qc K a) g tb D σ H1):=rfl
theorem kQ(Pv:Nat->L2.St->Hp->Prop)(h0:Pv 0 σ H)(hs:∀ i σ H,i<n->Pv i σ H->g (.int (lo+i)) σ H λσ2 H2=>tb { D with nx:=Pv (i+1),ct:=Pv (i+1),bk:=D.nx } σ2 H2)(hd:∀ σ H,Pv n σ H->D.nx σ H):FJ (eU lo n) g tb D σ H:=KL Pv h0 hs hd
theorem kR(Pv:Nat->L2.St->Hp->Prop)(h0:Pv 0 σ H)(hl:∀ i σ H,i<=xs.length->Pv i σ H->ah K H a xs)(hs:∀ i x σ H,xs[i]?=some x->Pv i σ H->g x σ H λσ2 H2=>tb { D with nx:=Pv (i+1),ct:=Pv (i+1),bk:=D.nx } σ2 H2)(hd:∀ σ H,Pv xs.length σ H->D.nx σ H):FJ (iY K a) g tb D σ H:=KJ Pv h0 hl hs hd
end
theorem br:(2:Nat)<=Y0:=by decide
section
theorem jN(hl:H l=none)(s:ak H H1):ak H (upd H1 l o):=λb u e=>by rw[aC (hJ e hl)];exact s b u e
end
end Gz
namespace Gz
open PySem PySem.W PySem.Spec PySem.Calls PyProof.Rows Builtin Builtin.ObjectAttr Builtin.Getset_descriptor
section
variable{prog:Zy}{w:aaa}{A:aaq}{E:YB->YK->Prop}{s:YK}{K:Frag}{x C:YN}{oe:Obj}{R:afx->YK->Prop}
theorem MB{tp:YB}(X:K.In s.heap)(he:s.heap.get? x=some oe)(hc:oe.cls = .ref C)(hm:mroIn K C (.type "object")=some true)
 (h:R (.ok (.ret (.ref C))) s):abv (model prog w) A (.call (.builtin "getset_descriptor.__get__") ⟨[.builtin "object.__class__",.ref x,tp],[]⟩) R s:=by
 obtain⟨hh,g,dr,t,os⟩:=s;have L0:Looks (model prog w) hh (agY (.ref x)) (.ref C):=hc ▸ (Looks.ld he).andThen .now;have L1:=looks_mroIn (M:=model prog w) X hm;refine abw KF.slot_gs.plain KF.entry_gs (KF.slot_gs.check _ _ _ _ _ _ _ _ KF.type_class (KF.args_gs _ _ _) ?_);unfold aas.«getset_descriptor.__get__» descrGet;rw[dga_obj];refine Yt (Yz ?_);unfold descrGetter descrCheckInstance descrNameAndClass agy;simp only[KF.owner_class]
 repeat lk
 refine⟨Code.quiet_builtin _ (by decide +kernel),ZI KF.entry_class ?_⟩;unfold aas.«object.__class__» shownTypeOf
 repeat lk
 exact h
theorem MC{tk:Tok}{Q:Fin->YK->Prop}(X:K.In s.heap)(he:s.heap.get? x=some oe)(hc:oe.cls = .ref C)(hm:mroIn K C (.type "object")=some true)
 (g3:findIn K (.ref C) "__class__" = some (some (.builtin "object.__class__"))) (h:Q (.done (.ret (.ref C))) s) :
 YT (model prog w) A (aas.«object.__getattribute__» ⟨[.ref x,.str "__class__" tk],[]⟩) Q E s:=by
 obtain⟨hh,g,dr,t,os⟩:=s;have L0:Looks (model prog w) hh (agY (.ref x)) (.ref C):=hc ▸ (Looks.ld he).andThen .now;have L1:=looks_findIn (M:=model prog w) X g3;have f5:=KF.type_class;have f6:=F.slot_gs_get.lookup;have f7:=F.slot_gs_set.lookup
 repeat (any_goals (first|assumption|(with_reducible refine L0.at ?_)|(with_reducible refine L1.at ?_)|wp_step))
 refine MB X he hc hm ?_
 repeat (any_goals (first|assumption|wp_step))
theorem MD{C6:YB}{Q:Unit->YK->Prop}(X:K.In s.heap)(he:s.heap.get? x=some oe)(hc:oe.cls = .ref C)(hb:mroIn K C (.type "BaseException")=some true)(h:Q () s) :
 YT (model prog w) A (acm "BaseException.__getattribute__" ⟨[.ref x,C6],[]⟩) Q E s:=by
 obtain⟨hh,g,dr,t,os⟩:=s;have hk:aeF "BaseException.__getattribute__" = some .slot:=by decide +kernel
 have ME:splitId "BaseException.__getattribute__" = some ("BaseException","__getattribute__"):=by decide +kernel
 have ha:=F.args_bexc_ga (.ref x) C6;have L0:Looks (model prog w) hh (agY (.ref x)) (.ref C):=hc ▸ (Looks.ld he).andThen .now;have L1:=looks_mroIn (M:=model prog w) X hb;simp only[acm,hk,ME];refine Yt ?_;unfold agy
 repeat (first|(with_reducible refine L0.at ?_)|(with_reducible refine L1.at ?_)|wp_step)
 exact h
theorem MF{Q:Option YB->YK->Prop}(X:K.In s.heap)(he:s.heap.get? x=some oe)(hc:oe.cls = .ref C)(hm:mroIn K C (.type "object")=some true)(hb:mroIn K C (.type "BaseException")=some true)
 (g1:findIn K (.ref C) "__getattribute__" = some (some (.builtin "BaseException.__getattribute__"))) (g2:findIn K (.ref C) "__getattr__" = some none)
 (g3:findIn K (.ref C) "__class__" = some (some (.builtin "object.__class__"))) (h:Q (some (.ref C)) { s with toks:=s.toks+1 }) :
 YT (model prog w) A (getAttr? (.ref x) "__class__") Q E s:=by
 obtain⟨hh,g,dr,t,os⟩:=s;have L0:Looks (model prog w) hh (agY (.ref x)) (.ref C):=hc ▸ (Looks.ld he).andThen .now;have L1:=looks_findIn (M:=model prog w) X g1;have L2:=looks_findIn (M:=model prog w) X g2;have f3:=F.excAttr_ValueError.ga.bind (.ref x);have MG:(adz "BaseException.__getattribute__" == adz "object.__getattribute__")=false:=by decide +kernel
 have jc:(onTheHeap (Y7 C) && adz "BaseException.__getattribute__" == adz "object.__getattribute__")=false:=by rw[MG];rfl
 unfold getAttr? getAttrBy?
 repeat (any_goals (first|assumption|(with_reducible refine L0.at ?_)|(with_reducible refine L1.at ?_)|(with_reducible refine L2.at ?_)|wp_step))
 refine abw F.excAttr_ValueError.ga.plain F.entry_bexc_ga (MD X he hc hb (MC X he hc hm g3 ?_))
 repeat (any_goals (first|assumption|wp_step))
end
structure XC(K:Frag)(C:YN):Prop where
 ex:excIn K C [.type "ValueError",.type "Exception",.type "BaseException",.type "object"] "ValueError.__new__" = true
 mo:mroIn K C (.type "object")=some true
 mb:mroIn K C (.type "BaseException")=some true
 ga:findIn K (.ref C) "__getattribute__" = some (some (.builtin "BaseException.__getattribute__"))
 gr:findIn K (.ref C) "__getattr__" = some none
 gc:findIn K (.ref C) "__class__" = some (some (.builtin "object.__class__"))
theorem XC.cls{K:Frag}{C:YN}(x:XC K C):∃ c d cd sl,K.lookup C=some ⟨c,d,.cls cd,sl⟩:=by
 have q:=x.ex;unfold excIn at q;split at q
 .rename_i dd cd sl ho;exact⟨_,_,_,_,ho⟩
 .cases q
theorem MH{K:Frag}{x C:YN}(c:XC K C):KitX K (.ref x) (.ref C) (λh=>∃ oe:Obj,h.get? x=some oe/\oe.cls = .ref C) where
 ty:=λ_ _ _ ⟨oe,he,hc⟩=>hc ▸ (Looks.ld he).andThen .now
 it:=λ_ _ X _=>by obtain⟨a,b,cd,sl,ho⟩:=c.cls;intro A' Q' E' s' k q;unfold isType loadHead;exact Yt (wpAny_loadPart (k _ _ (X _ _ ho)) (Yz q))
 ne:=λh tp dd ai n sl X xi=>by obtain⟨a,b,cd,sl,ho⟩:=c.cls;refine adl.mpr λq=>?_;have e:C=tp:=Value.ref.inj (beq_iff_eq.mp q);subst e;have z:=(X _ _ ho).symm.trans xi;cases z
 ca:=λX ⟨oe,he,hc⟩ k=>MF X he hc c.mo c.mb c.ga c.gr c.gc k
theorem MI{K:Frag}{h:aa4}{C:YN}(X:K.In h)(c:XC K C) :
 ∃ bm N nm q bs hdct sn sub ab col dd k0 k1 k2 k3 k5 mN,h.get? C=some (excClassObj nm q C N bs bm hdct sn sub ab col dd k0 k1 k2 k3 k5 "ValueError.__new__")/\h.Ns N mN/\mN "__init__" = none /\
  OwnTail h [.type "ValueError",.type "Exception",.type "BaseException",.type "object"] bm:=by
 have q:=c.ex;unfold excIn at q;split at q
 .rename_i dd cd sl ho;split at q
  .rename_i C' bm k0 k1 k2 k3 n k5 hm hs;simp only[aak,beq_iff_eq,Bool.not_eq_true'] at q;obtain⟨⟨⟨⟨⟨rfl,rfl⟩,hdel⟩,ht⟩,ao⟩,hni⟩:=q;obtain⟨nm,bs,mro,ns,qn,hd,sn,sub,ab,col,del⟩:=cd;dsimp only at hm hdel ao hni;subst hm hdel;have jd:sl = #[k0,k1,k2,k3,some (.builtin "ValueError.__new__"),k5]:=by obtain⟨l⟩:=sl;simp only at hs;rw[hs]
   subst jd;exact⟨bm,ns,nm,qn,bs,hd,sn,sub,ab,col,dd,k0,k1,k2,k3,k5,_,X _ _ ho,.of_isNs (isNs_of_in X ao),nsMap_none_of_in X ao hni,tail_of_in X ht⟩
  .cases q
 .cases q
open L2
noncomputable def gM(a C:YN):HO:=.ext λh=>∃ oe:Obj,h.get? a=some oe/\oe.cls = .ref C
theorem MJ(he:h.get? a=some oe)(hc:oe.cls = .ref C):bw P w H h a (gM a C) :=
 ⟨⟨oe,he,hc⟩,⟨oe,he⟩,λh1 h2 ⟨o,e,c⟩ k=>⟨o,k o e,c⟩⟩
section
def C7(K:Yu)(a:YN)(c:V)(H:Hp)(Q:VK):Prop:=∃ C b,H a=some (gM a C)/\XC K C/\jb c ≠ .none/\ZC K (.ref C) (jb c)=some b/\Q (.bl b) H
theorem C8{K:Yu}(hK:X.K=K):dN X (.builtin "isinstance") (λxs H Q=>∃ a c,xs=[.ref a,c]/\C7 K a c H Q):=by
 subst hK;intro pins s σ H xs us Q I r h;obtain⟨a,c,rfl,C,b,ha,xc,hc,e,q⟩:=h;obtain⟨u,v,rfl,rx,rc⟩:=vals2 r;have ev:v=jb c:=by
  cases c with
  | ref a=>exact rc
  | ty n=>exact rc
  | non=>exact absurd rfl hc
  | bl _=>exact absurd rfl hc
  | int _=>exact absurd rfl hc
  | str _=>exact absurd rfl hc
  | byt _=>exact absurd rfl hc
  | flt _=>exact absurd rfl hc
 subst ev;cases (show u=Y7 a from rx);obtain⟨hp,_,_⟩:=(show bw X.prog X.w H s.heap a (gM a C) from I.ao a _ ha)
 exact ZX (MH xc) I.bZ hp e (λz=>nomatch z) λtk=>⟨.bl b,H,I.tok tk,rfl,q⟩
end
theorem C9{K:Yu}{a C:YN}{c:V}{H:Hp}{Q:VK}{b:Bool}(h:H a=some (gM a C))(xc:XC K C)(hc:jb c ≠ .none)(e:ZC K (.ref C) (jb c)=some b)(q:Q (.bl b) H):C7 K a c H Q:=⟨C,b,h,xc,hc,e,q⟩
end Gz
namespace Gz
open PySem PySem.Spec PyProof.Rows L2
theorem bw.some(x:bw P w H h a o):∃ ob,h.get? a=some ob:=by
 cases o with
 | lst xs=>obtain⟨_,_,_,_,e⟩:=x;exact⟨_,e⟩
 | tup xs=>obtain⟨_,_,_,o,e,_⟩:=x;exact⟨_,e⟩
 | dK kvs=>obtain⟨_,_,_,_,o,_,_,e,_⟩:=x;exact⟨_,e⟩
 | dT kvs=>obtain⟨_,_,_,_,o,_,_,e,_⟩:=x;exact⟨_,e⟩
 | set S n=>obtain⟨o,_,_,_,e,_⟩:=x;exact⟨_,e⟩
 | ins C dx fs=>obtain⟨_,_,_,e,_⟩:=x;exact⟨_,e⟩
 | own y=>exact x
 | xd fs=>obtain⟨_,⟨_,_,_,e,_⟩,_⟩:=x;exact⟨_,e⟩
 | fP lo hi=>obtain⟨_,_,_,e⟩:=x;exact⟨_,e⟩
 | aN ob u=>obtain⟨e,_⟩:=x;exact⟨_,e⟩
 | tbl ps=>exact⟨_,x⟩
 | met f y=>exact⟨_,x⟩
 | ext φ=>exact x.2.1
def Dc(X:Cx)(E:XK):Prop:=∀ (pins:List (YN × Obj)) (σ:L2.St) (H:Hp) (s:YK) (e C:YN) (vs:List YB) (h':aa4),Inv X pins σ H s->Heap.MadeExcOf s.heap h' e (.ref C) vs->E (.ref C) none H->X.xe (.ref e) { s with heap:=h' }
def Dd(C:YN)(E:XK)(ta:TA):TS:=λD σ H=>ta σ H λvs H1=>vs.length<=Y0/\E (.ref C) none H1
section
theorem jO{x:Str}{np cL pos:Pos}{e₀:ach}{rest:List ach}{ta:TA}{C:YN}{E:XK}(hx:Dc X E)(hg:Gl X x)(hm:X.mg x=some (.ref C))(xc:XC X.K C)(hc:X.calm=true)(ha:PA X (e₀::rest) ta)
 (hd:(x == ("__debug__" : Str))=false:=by decide) (he:Y2 (e₀::rest) X.env=(false,eval e₀ X.env)::Y2 rest X.env:=by rfl)
 (c8:(aaC cL (Y2 rest X.env)).any (·.1)=false:=by rfl) :
 PS X (.Raise (some (.Call (.Name x np) (e₀::rest) [] cL)) none pos) (Dd C E ta):=by
 intro pins s σ H D I h;obtain⟨tl,N,nm,q,bs,hdct,sn,sub,ab,col,dd,k0,k1,k2,k3,k5,mN,hC,hN,hni,T⟩:=MI I.ok.mod.kin xc;refine wpAny_Raise_call_subU (C:=C) (nm:=nm) (q:=q) (N:=N) (bs:=bs) (bm:=tl) (hdct:=hdct) (sn:=sn) (sub:=sub) (ab:=ab) (col:=col) (dd:=dd) (k0:=k0) (k1:=k1) (k2:=k2) (k3:=k3) (k5:=k5)
  acP (by decide +kernel) acP (mN:=mN) (T.hasType PySem.F.excBase_ValueError.hasBase) (I.ok.hd hc) (by rw[he];show (false || (aaC cL (Y2 rest X.env)).any (·.1))=false;rw[c8];rfl) hni (nW I hg hm ⟨rfl,?_⟩ hd)
 have qo:=ha cL pins s σ H _ I h;rw[he] at qo ⊢;refine acr (Zz qo (λus s₂ h₂=>?_) λ_ _ y=>y);obtain⟨vs,H1,I1,r,hl,hE⟩:=h₂;exact⟨rfl,by rw[<- r.length];exact hl,I1.bk _ _ hC,hN.keeps I1.bk,T.keeps I1.bk,λh' e hm=>hx pins σ H1 s₂ e C us h' I1 hm hE⟩
end
section
variable{P:Zy}{w:aaa}{K:Yu}{mg:Str->Option YB}{base:aa4}{N:List Str}{qual:Str}{scope:aeo}{f:YN}{cd:YB}{A:aaq}{outer:List Env}{s:YK}{H:Hp}{E:XK}
theorem De(hf:env.frame=some L)(h:b∈aW (env::outer)):b=L∨b∈aW outer:=by unfold aW at h;rw[ZW,hf] at h;exact YV.mp h
theorem jP:Dc (eF (de P w) P w K mg base N qual scope f cd A outer s H E) E:=by
 intro pins σ H1 s1 e C vs h1 I hx hE;have qp:(eF (de P w) P w K mg base N qual scope f cd A outer s H E).A.frames=some (aaw qual scope s.heap.objs.size f cd::outer):=I.ok.frames;have hF:s1.heap.FunFrames base (aaw qual scope s.heap.objs.size f cd::outer):=I.stack;have bK:∀ env∈(aaw qual scope s.heap.objs.size f cd::outer),∀ b,env.frame=some b->b∈aW (aaw qual scope s.heap.objs.size f cd::outer):=λenv he b hb=>aau.mpr ⟨env,he,hb⟩;have MK:∀ b∈aW (aaw qual scope s.heap.objs.size f cd::outer),H1 b=none:=I.pW;have nV:∀ b o,s.heap.get? b=some o->b≠s.heap.objs.size:=λb o e=>YS (YA e);have jD:∀ b o,s.heap.get? b=some o->b∉aW outer->b∉aW (aaw qual scope s.heap.objs.size f cd::outer):=λb o e hb z=>by
  rcases De rfl z with z|z
  .exact nV b o e z
  .exact hb z
 have ub:Un (aW outer) [] H H1 s.heap s1.heap:=I.base;refine wpAny_leaves_madeW (base:=ad1 s1.heap (aW (aaw qual scope s.heap.objs.size f cd::outer))) qp rfl (λb o q=>aeO _ q) (PySem.W.funFrames_hide hF bK) hx λh' t fl tup bt up=>?_;have stays:=fl.1;have oj:∀ b o,s1.heap.get? b=some o->b∉aW (aaw qual scope s.heap.objs.size f cd::outer)->(ad1 s1.heap (aW (aaw qual scope s.heap.objs.size f cd::outer))).get? b=some o:=λb o q hb=>aeD _ q hb;have kT:∀ b∈aW (aaw qual scope s.heap.objs.size f cd::outer),∀ o,s1.heap.get? b=some o->∃ sl,h'.get? b=some { o with slots:=sl }:=λb hb o q=>by obtain⟨_,o',cB,hnf⟩:=hF.mem hb;rw[q] at cB;cases cB;exact up b o (hx.keeps b o q) hnf
 refine⟨e,.ref C,.ref t,H1,_,rfl,I.os,I.bare,⟨λb o q n hb cM=>?_,λb o q n hb cM=>?_,ub.free,λb o q cM=>?_,ub.dA,ub.dJ,ub.eh⟩,λb o q n hb=>?_,λb o q hb=>?_,λa o q=>?_,?_,?_,fl,hE⟩
 .exact stays b o (oj b o (ub.keep b o q n hb cM) (jD b o q hb))
 .obtain⟨sl,e1⟩:=ub.slot b o q n hb cM;obtain⟨eo,e2⟩:=kT b (by unfold aW;rw[ZW];exact Zu _ hb) _ e1;exact⟨eo,e2⟩
 .obtain⟨o',e1⟩:=ub.there b o q cM;by_cases hb:b∈aW (aaw qual scope s.heap.objs.size f cd::outer)
  .obtain⟨sl,e2⟩:=kT b hb o' e1;exact⟨_,e2⟩
  .exact⟨o',stays b o' (oj b o' e1 hb)⟩
 .exact oj b o (ub.keep b o q n hb (by simp)) (jD b o q hb)
 .obtain⟨o',e1⟩:=ub.there b o q (by simp);exact⟨o',oj b o' e1 (jD b o q hb)⟩
 .refine (I.ao a o q).fh (λb u hb z=>oj b u z λhm=>?_) (λ_ z=>z) λ_ _ z=>z;have:=MK b hm;rcases hb with hb|hb
  .rw[hb,q] at this;cases this
  .rw[hb] at this;cases this
 .cases q:H1 e with
  | none=>rfl
  | some u =>
   obtain⟨ob,z⟩:=bw.some (I.ao e u q);rw[hx.new] at z;cases z
 .cases q:s.heap.get? e with
  | none=>rfl
  | some u =>
   obtain⟨o',z⟩:=ub.there e u q (by simp);rw[hx.new] at z;cases z
theorem kU:Passes (de P w) (eF (de P w) P w K mg base N qual scope f cd A outer s H E) E:=by
 intro pins σ H1 s1 ev s2 I cx;obtain⟨x,cls,a0,H',B,rfl,os,bare,un,kb,tb,ao,hx,hn,fl,hE⟩:=cx;have qp:(eF (de P w) P w K mg base N qual scope f cd A outer s H E).A.frames=some (aaw qual scope s.heap.objs.size f cd::outer):=I.ok.frames;have hF:s1.heap.FunFrames base (aaw qual scope s.heap.objs.size f cd::outer):=I.stack;have nV:∀ b o,s.heap.get? b=some o->b≠s.heap.objs.size:=λb o e=>YS (YA e);have jD:∀ b o,s.heap.get? b=some o->b∉aW outer->b∉aW (aaw qual scope s.heap.objs.size f cd::outer):=λb o e hb z=>by
  rcases De rfl z with z|z
  .exact nV b o e z
  .exact hb z
 have ML:∀ b,b∈aW outer->b∈aW (aaw qual scope s.heap.objs.size f cd::outer):=λb hb=>by unfold aW;rw[ZW];exact Zu _ hb
 have ub:Un (aW outer) [] H H1 s.heap s1.heap:=I.base;have Df:Un (aW (aaw qual scope s.heap.objs.size f cd::outer)) [] H1 H' s1.heap s2.heap:=un;have Dg:∀ b o,s1.heap.get? b=some o->H1 b=none->b∉aW (aaw qual scope s.heap.objs.size f cd::outer)->B.get? b=some o:=kb;have ig:∀ b o,s1.heap.get? b=some o->b∉aW (aaw qual scope s.heap.objs.size f cd::outer)->∃ o',B.get? b=some o':=tb;have xj:∀ b∈aW (aaw qual scope s.heap.objs.size f cd::outer),H1 b=none:=I.pW;refine wpAny_leaves_onW qp rfl fl λh' uh up=>?_;have stays:=uh.1;have kT:∀ b∈aW (aaw qual scope s.heap.objs.size f cd::outer),∀ o,s1.heap.get? b=some o->∃ sl,h'.get? b=some { o with slots:=sl }:=λb hb o q=>by obtain⟨_,o',cB,hnf⟩:=hF.mem hb;rw[q] at cB;cases cB;obtain⟨sl,e1⟩:=Df.slot b o q (xj b hb) hb (by simp);obtain⟨eo,e2⟩:=up b _ e1 hnf;exact⟨eo,e2⟩
 refine⟨x,cls,a0,H',B,rfl,os.trans I.os,bare,⟨λb o q n hb cM=>?_,λb o q n hb cM=>?_,λb o q n cM=>?_,λb o q cM=>?_,λb xs q=>un.dA _ _ (ub.dA _ _ q),λb o u q=>un.dJ _ _ _ (ub.dJ _ _ _ q),λb ps q=>?_⟩,λb o q n hb=>?_,λb o q hb=>?_,ao,hx,?_,uh,hE⟩
 .exact stays b o (Dg b o (ub.keep b o q n hb cM) (ub.free b o q n cM) (jD b o q hb))
 .obtain⟨sl,e1⟩:=ub.slot b o q n hb cM;obtain⟨eo,e2⟩:=kT b (ML b hb) _ e1;exact⟨eo,e2⟩
 .obtain⟨o',e1⟩:=ub.there b o q cM;exact Df.free b o' e1 (ub.free b o q n cM) (by simp)
 .obtain⟨o',e1⟩:=ub.there b o q cM;by_cases hb:b∈aW (aaw qual scope s.heap.objs.size f cd::outer)
  .obtain⟨sl,e2⟩:=kT b hb o' e1;exact⟨_,e2⟩
  .obtain⟨o2,e2⟩:=ig b o' e1 hb;exact⟨o2,stays b o2 e2⟩
 .obtain⟨m1,e1⟩:=ub.eh b ps q;obtain⟨m2,e2⟩:=un.eh b _ e1;exact⟨m1++m2,by rw[e2,aeP]⟩
 .exact Dg b o (ub.keep b o q n hb (by simp)) (ub.free b o q n (by simp)) (jD b o q hb)
 .obtain⟨o',e1⟩:=ub.there b o q (by simp);exact ig b o' e1 (jD b o q hb)
 .cases q:s.heap.get? x with
  | none=>rfl
  | some u =>
   obtain⟨o',z⟩:=ub.there x u q (by simp);rw[hn] at z;cases z
theorem ij{x qual:Str}{st:aaA}{f:YN}{fd:abD}{N ps:List Str}{k:Nat}{sp:Sp}(F:mz K x qual st f fd)(S:qh N ps (da st))(len:∀ vs H Q E,sp vs H Q E->vs.length=ps.length)
 (eW:∀ (aV:YB) (A:aaq) (outer:List Env) (s:YK) (H:Hp) (vs:List V) (Q:VK) (E:XK),bD k (A.deeper (aaw qual (da st) s.heap.objs.size f aV))->sp vs H Q E ->
   ∃ t,aR (eF (de P w) P w K mg base N qual (da st) f aV A outer s H E) (gK st) t/\t { nx:=λ_ H'=>Q .non H',rt:=Q } (start N vs) H):dC P w K mg base (de P w) (k+1) f fd ps sp:=by
 obtain⟨oc,od,kV,doc,pm,an,aV,ct,i6,rfl,lk,fi⟩:=F.ex;refine CA lk fi S len λA outer s H vs Q E hr kN=>?_;exact eW aV A outer s H vs Q E hr kN
end
noncomputable abbrev Xp(X:Cx)(F:YB->YK->Prop)(pn:List (YN × Obj)):Cx:={ X with xe:=F,pn:=pn }
noncomputable abbrev Xh(X:Cx)(A':aaq)(pn:List (YN × Obj)):Cx:={ X with A:=A',calm:=false,xe:=λ_ _=>False,pn:=pn }
def MM(K:Yu)(m i:Nat)(G:YN)(tb th:TS)(E':XK):TS:=λD σ H=>tb D σ H/\∀ cls H',E' cls none H'->∃ C,cls = .ref C/\ac3 K (.ref C) (.ref G)=some true /\
 ∀ a,H' a=none->th { nx:=λσ' H2=>D.nx (σ'.set i none) H2,rt:=D.rt,bk:=λσ' H2=>D.bk (σ'.set i none) H2,ct:=λσ' H2=>D.ct (σ'.set i none) H2 } ((Zp m none).set i (some (.ref a))) (upd H' a (gM a C))
section
theorem MN(ok:X.Ok):(Xp X F pn).Ok:=⟨ok.mod,ok.kind,ok.glob,ok.blt,ok.above,ok.inj,ok.has,ok.cab,ok.hd,ok.frames,ok.stk,ok.exf,ok.bs,ok.bsz,ok.noex,ok.exfs,ok.eQ,ok.frf⟩
theorem Dh(ok:(Xp X F pn).Ok):X.Ok:=⟨ok.mod,ok.kind,ok.glob,ok.blt,ok.above,ok.inj,ok.has,ok.cab,ok.hd,ok.frames,ok.stk,ok.exf,ok.bs,ok.bsz,ok.noex,ok.exfs,ok.eQ,ok.frf⟩
theorem MO(ok:X.Ok)(hA:A'.frames=X.A.frames):(Xh X A' pn).Ok:=⟨ok.mod,ok.kind,ok.glob,ok.blt,ok.above,ok.inj,ok.has,ok.cab,(λz=>nomatch z),hA.trans ok.frames,ok.stk,ok.exf,ok.bs,ok.bsz,ok.noex,ok.exfs,ok.eQ,ok.frf⟩
theorem MP(I:Inv X pins σ H s):Inv (Xp X F (X.pn++pins)) [] σ H s:=⟨MN I.ok,I.os,I.bare,I.base,I.loc,I.cell,I.free,I.el,λp hp=>I.pin p (by simpa using hp),I.ao,I.len⟩
theorem ui(I:Inv (Xp X F (X.pn++pins)) [] σ H s):Inv X pins σ H s:=⟨Dh I.ok,I.os,I.bare,I.base,I.loc,I.cell,I.free,I.el,λp hp=>I.pin p (by simpa using hp),I.ao,I.len⟩
theorem Di(I:Inv (Xp X F pn) wm σ H s)(hA:A'.frames=X.A.frames):Inv (Xh X A' pn) [] σ H s :=
 ⟨MO (Dh I.ok) hA,I.os,I.bare,I.base,I.loc,I.cell,I.free,I.el,λp hp=>I.pin p (by simp at hp;exact Zl _ hp),I.ao,I.len⟩
theorem SP.MQ(h:SP (Xp X F (X.pn++pins)) [] D f s'):SP X pins D f s':=by
 cases f with
 | next=>obtain⟨σ',H',I,q⟩:=h;exact⟨σ',H',ui I,q⟩
 | brk=>obtain⟨σ',H',I,q⟩:=h;exact⟨σ',H',ui I,q⟩
 | cont=>obtain⟨σ',H',I,q⟩:=h;exact⟨σ',H',ui I,q⟩
 | ret u=>obtain⟨v,σ',H',I,r,q⟩:=h;exact⟨v,σ',H',ui I,r,q⟩
theorem uj(ij:X.Ok)(I:Inv (Xh X A' (X.pn++pins)) [] σ H s)(hN:X.N.Nodup)(hi:X.N[i]?=some n)(hl:X.env.scope.names.lookup n=some .local)(h:∀ s',Inv X pins (σ.set i none) H s'->Q () s'):YT M A (do bindName X.env n .none;unbindBehindTheSuite X.env n kW) Q E s:=by
 obtain⟨m,hn,hlk⟩:=id I.loc;have wt:(X.env.scope.kind == .class || (X.env.scope.kind == .module && X.env.locals != X.env.globals))=false:=by rw[I.ok.kind];rfl
 have hU:∀ x c,X.env.cells.lookup x=some c->c≠X.env.locals:=I.hU;have Dj:H X.env.locals=none:=I.free;obtain⟨oL,_,_,BL,_⟩:=id hn;refine wpAny_nameGoes_keeps hl hn wt λh' v iU hs=>?_;have tracked:bN X.prog X.w H h':=λb ob e=>by
  refine (I.ao b ob e).fh (λc w' hc q=>(hs.2 c ?_).trans q) (λ_ q=>q) λ_ _ q=>q;rintro rfl;rcases hc with hc|hc
  .rw[<- hc,Dj] at e;cases e
  .rw[Dj] at hc;cases hc
 have dU:X.s₀.heap.objs.size<=X.env.locals:=ij.above;refine h _ ⟨ij,I.os,I.bare,⟨λb o e nn hb hx=>?_,λb o e nn hb hx=>?_,I.base.free,λb o e hx=>?_,I.base.dA,I.base.dJ,I.base.eh⟩,⟨_,iU,λj y v' e1 e2 e3=>?_⟩,λy c e=>?_,I.free,I.el,λp hp=>?_,tracked,by simpa using I.len⟩
 .exact (hs.2 b (YS (YU (YA e) dU))).trans (I.base.keep b o e nn hb hx)
 .obtain⟨sl,e1⟩:=I.base.slot b o e nn hb hx;exact⟨sl,(hs.2 b (YS (YU (YA e) dU))).trans e1⟩
 .obtain⟨o',e1⟩:=I.base.there b o e hx;exact⟨o',(hs.2 b (YS (YU (YA e) dU))).trans e1⟩
 .have Dk:j≠i:=by
   rintro rfl;by_cases aU:j<σ.length
   .rw[abX aU] at e2;cases e2
   .rw[ZF (by rw[aea];lia)] at e2;cases e2
  rw[acq (Zt Dk)] at e2;obtain⟨u',r',q⟩:=hlk j y v' e1 e2 e3;refine⟨u',r',?_⟩;rcases q with ⟨k,e⟩|⟨k,c,e,z⟩
  .refine .inl ⟨k,?_⟩;have:y≠n:=λe=>Dk (wq hN e1 (e ▸ hi));simp[this,e]
  .exact .inr ⟨k,c,e,z.sameBut hs (hU y c e)⟩
 .obtain⟨w',z⟩:=I.cell y c e;exact⟨w',z.sameBut hs (hU y c e)⟩
 .obtain⟨e,nn,ne,nf,d⟩:=I.pin p (by simpa using hp);exact⟨(hs.2 p.1 ne).trans e,nn,ne,nf,d⟩
theorem MR(E':XK)(i:Nat)(cc:X.stack=X.env::X.outer)(MS:X.env.frame=some X.env.locals)(hg:Gl X x)(hm:X.mg x=some (.ref G))(hN:X.N.Nodup)(hi:X.N[i]?=some n)(hl:X.env.scope.names.lookup n=some .local)(hb:∀ F pn,Passes (de X.prog X.w) (Xp X F pn) E'->aR (Xp X F pn) body tb)(hh:∀ A' pn,aR (Xh X A' pn) (b₀::suite) th)(hd:(x == ("__debug__" : Str))=false:=by decide)(hf:X.fn n=true∨X.env.scope.names.lookup n=some .local:=by first|exact .inl rfl|exact .inr rfl|assumption) :
 PS X (.Try body [.ExceptHandler (some (.Name x np)) (some n) (b₀::suite) kW] [] [] pos) (MM X.K X.N.length i G tb th E'):=by
 intro pins s σ H D I h;obtain⟨h1,h2⟩:=h;refine wpAny_Try_except ?_;refine Zz (hb (λe s₁=>YT (model X.prog X.w) X.A (noteFrame e X.env) (λ_ s₂=>YT (model X.prog X.w) X.A (setFlight e none) (λ_ s₃=>YT (model X.prog X.w) X.A (handleBy e X.env [.ExceptHandler (some (.Name x np)) (some n) (b₀::suite) kW]) (SP X pins D) X.xe s₃) X.xe s₂) X.xe s₁) (X.pn++pins) ?_ [] s σ H D (MP I) h1) (λf s1 q=>?_) λe s1 q=>q
 .intro wm σ' H1 s1 ev s2 I1 cx;obtain⟨xx,cls,a0,H',B,rfl,os,bare,un,kb,ig,ao,hx,hn,fl,hE⟩:=cx;obtain⟨C,rfl,ik,hth⟩:=h2 cls H' hE;have ij:=I.ok;have qp:X.A.frames=some (X.env::X.outer):=by rw[<- cc];exact ij.frames
  have uh:afB B (X.env::X.outer) xx (.ref C) a0 s2.heap:=by have z:afB B X.stack xx (.ref C) a0 s2.heap:=fl;rw[cc] at z;exact z
  have hF:s1.heap.FunFrames X.base X.stack:=I1.stack;have xj:∀ b∈aW X.stack,H1 b=none:=I1.pW;have Dl:∀ h:aa4,B.StaysIn h->s2.heap.UpToSlots h->Un (aW X.stack) [] H1 H' s1.heap h:=λh stays up=>by
   have kT:∀ b∈aW X.stack,∀ o,s1.heap.get? b=some o->∃ sl,h.get? b=some { o with slots:=sl }:=λb hb o q=>by obtain⟨_,o',cB,hnf⟩:=hF.mem hb;rw[q] at cB;cases cB;obtain⟨sl,e1⟩:=un.slot b o q (xj b hb) hb (by simp);obtain⟨eo,e2⟩:=up b _ e1 hnf;exact⟨eo,e2⟩
   refine⟨λb o q nn hb cM=>stays b o (kb b o q nn hb),λb o q nn hb cM=>kT b hb o q,un.free,λb o q cM=>?_,un.dA,un.dJ,un.eh⟩;by_cases hb:b∈aW X.stack
   .obtain⟨sl,e2⟩:=kT b hb o q;exact⟨_,e2⟩
   .obtain⟨o2,e2⟩:=ig b o q hb;exact⟨o2,stays b o2 e2⟩
  refine wpAny_looks_onW qp MS uh λh₄ MT MU=>?_;refine wpAny_landsW MT λh₅ uk MV=>?_;have Dm:s2.heap.UpToSlots h₅:=MU.trans MV;have I5:Inv (Xh X (X.A.mark (some (.ref xx))) (X.pn++pins)) [] σ' H' { s2 with heap:=h₅ }:=by
   refine Di (I1.wy (s':={ s2 with heap:=h₅ }) (ch:=[]) os (Dl h₅ uk.1 Dm) (ao.kept λb u q=>uk.1 b u q) bare (λb z=>absurd z (by simp))) ?_
   first|rfl|simp
  refine wpAny_handleBy_cons (codeAny_handlers_test ?_) (by intro q;cases q);refine nW (X:=Xh X (X.A.mark (some (.ref xx))) (X.pn++pins)) I5 hg hm ?_ hd;obtain⟨ob,hob,hobc⟩:=uk.there;have LT:PySem.W.Looks (model X.prog X.w) h₅ (agY (.ref xx)) (.ref C):=hobc ▸ (PySem.W.Looks.ld hob).andThen .now;refine (PySem.W.exm_one (M:=model X.prog X.w) (h:=h₅) I5.bZ LT ik).here ?_;refine codeAny_handlers_suite_as ?_;refine lands_againW uk λh₆ xk MW=>?_;have MX:s2.heap.UpToSlots h₆:=Dm.trans MW;obtain⟨oe,hoe,hoec⟩:=xk.there;have u6:=Dl h₆ xk.1 MX;have MY:∀ b o,s1.heap.get? b=some o->b≠xx:=λb o q z=>by rw[z,hn] at q;cases q
  have qq:∀ b o,H' b=some o->b≠xx:=λb o q z=>by rw[z,hx] at q;cases q
  have MZ:Un (aW X.stack) [] H1 (upd H' xx (gM xx C)) s1.heap h₆:=by
   refine⟨u6.keep,u6.slot,λb o q nn cM=>?_,u6.there,λb xs q=>?_,λb o u q=>?_,λb ps q=>?_⟩
   .rw[aC (MY b o q)];exact u6.free b o q nn cM
   .have:=u6.dA b xs q;rw[aC (qq b _ this)];exact this
   .have:=u6.dJ b o u q;rw[aC (qq b _ this)];exact this
   .obtain⟨more,z⟩:=u6.eh b ps q;exact⟨more,by rw[aC (qq b _ z)];exact z⟩
  have M0:bN X.prog X.w (upd H' xx (gM xx C)) h₆:=λb u q=>by
   by_cases bO:b=xx
   .subst bO;rw[az] at q;cases q;exact MJ hoe hoec
   .rw[aC bO] at q;exact (ao b u q).fh (λc v _ z=>xk.1 c v z) (λc z=>by rw[aC (qq c _ z)];exact z) λc xs z=>by rw[aC (qq c _ z)];exact z
  have I6:Inv (Xh X (X.A.mark (some (.ref xx))) (X.pn++pins)) [] σ' (upd H' xx (gM xx C)) { s2 with heap:=h₆ }:=by
   refine Di (I1.wy (s':={ s2 with heap:=h₆ }) (ch:=[]) os MZ M0 bare (λb z=>absurd z (by simp))) ?_
   first|rfl|simp
  have I7:Inv (Xh X (X.A.mark (some (.ref xx))) (X.pn++pins)) [] (Zp X.N.length none) (upd H' xx (gM xx C)) { s2 with heap:=h₆ } :=
   I6.weak (by rw[aar,I6.len]) λj v z=>by rw[Z0] at z;split at z<;>cases z
  refine wx (X:=Xh X (X.A.mark (some (.ref xx))) (X.pn++pins)) (v:=.ref xx) I7 hN hi (.inl hl) rfl (λs8 I8=>?_) hf;refine Zz (hh (X.A.mark (some (.ref xx))) (X.pn++pins) [] s8 _ _ _ I8 (hth xx hx)) (λfl s9 q=>?_) λ_ _ z=>z.elim;cases fl with
  | next =>
   obtain⟨σ9,H9,I9,q⟩:=q;exact uj ij I9 hN hi hl λs' J=>⟨_,_,J,q⟩
  | brk =>
   obtain⟨σ9,H9,I9,q⟩:=q;exact uj ij I9 hN hi hl λs' J=>⟨_,_,J,q⟩
  | cont =>
   obtain⟨σ9,H9,I9,q⟩:=q;exact uj ij I9 hN hi hl λs' J=>⟨_,_,J,q⟩
  | ret u =>
   obtain⟨v,σ9,H9,I9,r,q⟩:=q;exact uj ij I9 hN hi hl λs' J=>⟨v,_,_,J,r,q⟩
 .have q':=SP.MQ q;cases f with
  | next =>
   obtain⟨σ',H',I',q'⟩:=q';exact acv ⟨σ',H',I',q'⟩
  | brk=>exact q'
  | cont=>exact q'
  | ret u=>exact q'
end
theorem M4{K:Yu}{C G:YN}{cd:ClassData}{b:Bool}(h1:aeW K G=some cd)(h2:ac0 K (.ref G)=some (.type "type"))(h3:abS K (.ref C) (.ref G)=some b)(h4:abS K (.ref G) (.type "BaseException")=some true) :
 ac3 K (.ref C) (.ref G)=some b:=by
 unfold ac3;rw[if_pos (by rw[h4];rfl)];show (if ((aeW K G).isSome && ac0 K (.ref G) == some (.type "type"))=true then abS K (.ref C) (.ref G) else none)=some b;rw[if_pos (by rw[h1,h2];rfl)];exact h3
local macro_rules | `(tactic| walk_at "o") => `(tactic| ((try simp only [PySem.Addr] at *); lia))
inductive jQ(X:Cx)(scope:aeo)(cl:List (Str × YN)):List Nat->List Str->Prop where
 | nil:jQ X scope cl [] []
 | cons {j:Nat} {y:Str} {c:YN} {js:List Nat} {ys:List Str} (hN:X.N[j]?=some y) (hk:X.env.kindOf y=some .cell) (h1:cl.lookup y=some c) (h2:X.env.cells.lookup y=some c) (h:jQ X scope cl js ys):jQ X scope cl (j::js) (y::ys)
inductive mD(X:Cx):List (Str × YN)->Prop where
 | nil:mD X []
 | cons {n:Str} {a:YN} {r:List (Str × YN)} (h:X.env.cells.lookup n=some a) (t:mD X r):mD X ((n,a)::r)
theorem mD.get:∀ {cl:List (Str × YN)},mD X cl->∀ y c,cl.lookup y=some c->X.env.cells.lookup y=some c
 | _,.nil,y,c,e=>by simp at e
 | _,.cons (n:=n) h t,y,c,e=>by
  rw[List.lookup_cons] at e;by_cases hy:(y == n)=true
  .rw[hy] at e;have e1:y=n:=by simpa using hy
   cases e;rw[e1];exact h
  .rw[adl.mpr hy] at e;exact t.get y c e
theorem jQ.get{X:Cx}{scope:aeo}{cl:List (Str × YN)}{σ:L2.St}:∀ {js:List Nat} {ys:List Str},jQ X scope cl js ys->∀ (i:Nat) (y:Str) (v:V),ys[i]?=some y->(js.map λj=>(σ[j]?).join)[i]?=some (some v) ->
 ∃ (j:Nat) (c:YN),X.N[j]?=some y/\σ[j]?=some (some v)/\X.env.kindOf y=some .cell/\cl.lookup y=some c/\X.env.cells.lookup y=some c
 | _,_,.nil,i,y,v,e,_=>by simp at e
 | _,_,.cons (j:=j) hN hk h1 h2 h,0,y,v,e,q=>by
  simp at e q;subst e;refine⟨j,_,hN,?_,hk,h1,h2⟩;cases z:σ[j]? with
  | none=>rw[z] at q;simp at q
  | some o=>rw[z] at q;simp at q;rw[q]
 | _,_,.cons hN hk h1 h2 h,i+1,y,v,e,q=>by simp only[aa7,YW] at e q;exact h.get i y v e q
theorem jQ.len:∀ {js:List Nat} {ys:List Str},jQ X scope cl js ys->js.length=ys.length
 | _,_,.nil=>rfl
 | _,_,.cons _ _ _ _ h=>by simp[h.len]
noncomputable def df(X:Cx)(N':List Str)(scope:aeo)(cl:List (Str × YN))(C:YN)(s2:YK)(H2:Hp)(ex:List YN)(pn:List (YN × Obj)):Cx :=
 { X with N:=N',s₀:=s2,H₀:=H2,env:=agG scope cl C X.env,outer:=X.stack,ex:=ex,fn:=λ_=>false,pn:=pn,xe:=λ_ _=>False }
structure bC(X:Cx)(x:Str)(scope:aeo)(cl:List (Str × YN))(fr:List Nat)(ys:List Str):Prop where
 clos:closureFor scope X.env=pure cl
 nocell:(scope.names.all λp=>p.2 != .cell)=true
 kind:scope.kind = .function
 names:(scope.names.all λp=>p.2 != .local || scope.names.lookup p.1 == some .local)=true
 own:scope.names.lookup x=some .local
 kinds:((relabel scope X.env).names.all λp=>(p.2 != .cell && p.2 != .free) || (cl.lookup p.1).isSome)=true
 cls:mD X cl
 aW:jQ X scope cl fr ys
 nd:(x::ys).Nodup
 kfr:(ys.all λy=>(relabel scope X.env).names.lookup y == some .cell)=true
def jR(X:Cx)(ifs:List ach)(t:TT):Prop :=
 ∀ (pins:List (YN × Obj)) (s:YK) (σ:L2.St) (H:Hp) (Q:Bool->Hp->Prop),Inv X pins σ H s->t σ H Q ->
  YT (model X.prog X.w) X.A (forIn ifs true λc r=>if r=true then do let ok <- agV c X.env (eval c X.env);pure (acB ok) else pure (acB r)) (TP X pins σ Q) X.xe s
def xl:TT:=λ_ H Q=>Q true H
theorem cQ:jR X [] xl:=λ_ _ _ H _ I h=>wpAny_tests_nil ⟨H,I,h⟩
theorem gN(hc:PT X c t):jR X [c] t:=λpins s σ H Q I h=>wpAny_tests_one (hc pins s σ H Q I h)
def kX(J:It)(ρ:L2.St)(tt:TT)(te:TE)(H:Hp)(Q:VK):Prop:=∃ W:Nat->Nat->List V->Hp->Prop,(∃ m,W 0 m [] H)/\∀ i m ys H,W i m ys H ->
 (J.stop i H/\ys.length<=Y0/\∀ l,H l=none->Q (.ref l) (upd H l (.lst ys)))∨(J.go i H/\ys.length<Y0/\∃ N:List V->Hp->Prop,(∀ zs H',N zs H'->∃ m',m'<m/\W (i+1) m' zs H') /\
  ∀ x H',J.yld i H x H'->tt (some x::ρ) H' λb H1=>if b=true then te (some x::ρ) H1 λy H2=>N (ys++[y]) H2 else N ys H1)
def xm(wi:TI)(fr:List Nat)(tt:TT)(te:TE):TE:=λσ H Q=>wi σ H λJ H1=>kX J (fr.map λj=>(σ[j]?).join) tt te H1 Q
structure kY(X:Cx)(own:List Str)(scope:aeo)(cl:List (Str × YN))(fr:List Nat)(ys:List Str):Prop where
 clos:closureFor scope X.env=pure cl
 nocell:(scope.names.all λp=>p.2 != .cell)=true
 kind:scope.kind = .function
 names:(scope.names.all λp=>p.2 != .local || scope.names.lookup p.1 == some .local)=true
 kinds:((relabel scope X.env).names.all λp=>(p.2 != .cell && p.2 != .free) || (cl.lookup p.1).isSome)=true
 cls:mD X cl
 aW:jQ X scope cl fr ys
 kfr:(ys.all λy=>(relabel scope X.env).names.lookup y == some .cell)=true
def jS(k:Nat)(J:It)(g:TG)(ρ:L2.St)(tt:TT)(te:TE)(H:Hp)(Q:VK):Prop:=∃ W:Nat->Nat->List V->Hp->Prop,(∃ m,W 0 m [] H)/\∀ i m ys H,W i m ys H ->
 (J.stop i H/\ys.length<=Y0/\∀ l,H l=none->Q (.ref l) (upd H l (.lst ys)))∨(J.go i H/\ys.length<Y0/\∃ N:List V->Hp->Prop,(∀ zs H',N zs H'->∃ m',m'<m/\W (i+1) m' zs H') /\
  ∀ os:List (Option V),os.length=k->∀ x H',J.yld i H x H'->g x (os++ρ) H' λσ2 H2=>∃ n0,n0.length=k/\σ2=n0++ρ/\tt σ2 H2 λb H1=>if b=true then te σ2 H1 λy H2=>N (ys++[y]) H2 else N ys H1)
def Dp(k:Nat)(wi:TI)(g:TG)(fr:List Nat)(tt:TT)(te:TE):TE:=λσ H Q=>wi σ H λJ H1=>jS k J g (fr.map λj=>(σ[j]?).join) tt te H1 Q
theorem M5(I:Nat->YK->Prop)(turn:∀ n s,I n s->YT (model prog w) A (abe it) (λr s₁=>match r with
 | none=>R (.ok .next) s₁
 | some v=>YT (model prog w) A (acx target it v) (λ_ Dq=>YT (model prog w) A (assign target env v) (λ_ s₂ =>
  YT (model prog w) A (forIn ifs true λc r=>if r=true then do let ok <- agV c env (eval c env);pure (acB ok) else pure (acB r)) (λok s₃ =>
   if ok=true then YT (model prog w) A (eval elt env) (λx s₄ =>
    YT (model prog w) A (call (.builtin "list.append") [acc,x]) (λ_ s₅=>∃ m,m<n/\I m s₅) (af4 (model prog w) A env λe s'=>R (.error e) s') s₄) (af4 (model prog w) A env λe s'=>R (.error e) s') s₃
   else ∃ m,m<n/\I m s₃) (af4 (model prog w) A env λe s'=>R (.error e) s') s₂) (af4 (model prog w) A env λe s'=>R (.error e) s') Dq) (af4 (model prog w) A env λe s'=>R (.error e) s') s₁) (af4 (model prog w) A env λe s'=>R (.error e) s') s) (n:Nat) (h:I n s) :
 abv (model prog w) A (.compLoop (.ListComp elt [⟨target,iter,ifs,0⟩] scope pos) 0 it acc env) R s:=by
 refine codeAny_loop rfl I (λn s hI=>?_) n h;show YT _ A ((compTurn (.ListComp elt [⟨target,iter,ifs,0⟩] scope pos) 0 it acc env).onRaise (λx=>do noteFrame x env;theTreesLotGoes x)) _ _ s;refine wpAny_noted ?_;rw[compTurn_list];refine Yt (aeR (Yt (Zz (turn n s hI) (λr s₁ h₁=>?_) λ_ _ h'=>h')));cases r with
 | none=>exact Yz h₁
 | some v =>
  refine Yt (Zz h₁ (λ_ Dq M6=>?_) λ_ _ h'=>h');refine Yt (Zz M6 (λ_ s₂ h₂=>Yt (Zz h₂ (λok s₃ h₃=>?_) λ_ _ h'=>h')) λ_ _ h'=>h');cases ok with
  | false=>exact Yz ⟨rfl,h₃⟩
  | true =>
   exact Yt (Yt (Zz h₃ (λx s₄ h₄=>Yt (Zz h₄ (λ_ s₅ h₅=>Yz (Yz ⟨rfl,h₅⟩)) λ_ _ h'=>h')) λ_ _ h'=>h'))
theorem Dr{l:List (Str × aem)}{p:Str × aem->Bool}(h:l.all p=true){y:Str}{k:aem}(e:l.lookup y=some k):p (y,k)=true:=by exact aaP.mp h _ (aaI e)
def xn(i:Nat)(te:TE):TS:=λD σ H=>te σ H λv H1=>D.nx (σ.set i (some v)) H1
section
theorem M7(S:kY X own scope cl fr ys)(I2:Inv X pins σ H2 s2)(f2:∀ b∈ex,cV X pins H2 b)(hC:s2.heap.objs.size<=C)(hex:∀ b∈ex,b<s2.heap.objs.size):(df X (own++ys) scope cl C s2 H2 ex pn).Ok:=by
 refine⟨I2.ok.mod,S.kind,I2.ok.glob,I2.ok.blt,hC,λa b c h1 h2=>?_,λy hy=>?_,λ_ _ z=>(nomatch z),I2.ok.hd,I2.ok.frames,.inl rfl,λb hb=>⟨?_,λy c e z=>?_⟩,I2.bs,YE I2.ok.bsz I2.sz,λb o e hb=>?_,λb hb z=>?_,I2.stack,I2.pW⟩
 .exact I2.ok.inj a b c (S.cls.get a c h1) (S.cls.get b c h2)
 .have M8:(relabel scope X.env).names.lookup y=some .cell∨(relabel scope X.env).names.lookup y=some .free:=hy;have q:(cl.lookup y).isSome=true:=by
   rcases M8 with e|e
   .simpa using Dr S.kinds e
   .simpa using Dr S.kinds e
  exact abN.mp q
 .exact YS (YU (hex b hb) hC)
 .exact (f2 b hb).2.2.2.2.1 y c (S.cls.get y c e) z
 .obtain⟨_,_,_,d,_,_⟩:=f2 b hb;rcases d with d|d
  .exact I2.ok.noex b o e d
  .exact absurd (YU (YA e) (YE I2.ok.bsz d)) (Z6 _)
 .obtain⟨_,d1,d2,_⟩:=f2 b hb;rcases YV.mp (I2.nU b z) with q|q
  .exact d1 q
  .exact d2 q
noncomputable def iq(X:Cx)(N':List Str)(fn:Str->Bool)(scope:aeo)(cl:List (Str × YN))(C:YN)(s2:YK)(H2:Hp)(ex:List YN)(pn:List (YN × Obj)):Cx :=
 { X with N:=N',s₀:=s2,H₀:=H2,env:=agG scope cl C X.env,outer:=X.stack,ex:=ex,fn:=fn,pn:=pn,xe:=λ_ _=>False }
theorem Ds{C D:YN}{fp:List YN}(I2:Inv X pins σ H2 s2)(f2:∀ b∈fp,cV X pins H2 b)(hC:s2.heap.objs.size<=C)(hD:s2.heap.objs.size<=D):∀ p∈X.pn++pins,p.1≠C/\p.1≠D/\p.1∉aW X.stack/\∀ b∈fp,p.1≠b:=λp hp=>by
 obtain⟨e,n,nL,nf,_⟩:=I2.pin p hp;have lt:=YA e;refine⟨by walk_at "o",by walk_at "o",λz=>?_,λb hb=>(f2 b hb).2.2.2.2.2 p hp⟩;rcases YV.mp (I2.nU _ z) with q|q
 .exact nL q
 .exact nf q
theorem M9{J:It}{fp:List YN}{it C D:YN}{tn:Nat->aa4->Prop}{Q:VK}{RR:YB->YN->afx->YK->Prop}{nm:List Str}{fn:Str->Bool}{k:Nat}{xo ρ:List (Option V)}{h1:aa4}{tk:Nat}
 (hc:X.calm=true) (hg:PG (iq X nm fn scope cl C s2 H2 fp (X.pn++pins)) tg g) (hb:jR (iq X nm fn scope cl C s2 H2 fp (X.pn++pins)) ifs tt/\PE (iq X nm fn scope cl C s2 H2 fp (X.pn++pins)) elt te)
 (I2:Inv X pins σ H2 s2) (T:Turn X.prog X.w X.K tg J fp it tn) (gj:tn 0 s2.heap) (f2:∀ b∈fp,cV X pins H2 b)
 (h:jS k J g ρ tt te H2 Q)
 (xq:∀ D C s' H',Inv X pins σ H' s'->(∃ m,s'.heap.Ns C m)->cV X pins H' C->Q (.ref D) H'->RR (.ref D) C (.ok .next) s')
 (xr:xo.length=k) (I4:Inv (iq X nm fn scope cl C s2 H2 fp (X.pn++pins)) [] (xo++ρ) H2 { s2 with heap:=h1,toks:=tk }) (keep:∀ b o,s2.heap.get? b=some o->h1.get? b=some o)
 (hD:h1.get? D=some { cls:=.type "list",data:=.seq ([]:List YB).toArray 0 }) (eD:s2.heap.objs.size=D) (eC:s2.heap.objs.size+1=C)
 (aX:∀ y c,cl.lookup y=some c->c≠D/\∀ b∈fp,c≠b) :
 abv (model X.prog X.w) X.A (.compStart (.ListComp elt [⟨tg,iter,ifs,0⟩] scope pos) 0 (.ref it) (.ref D) (agG scope cl C X.env)) (RR (.ref D) C) { s2 with heap:=h1,toks:=tk }:=by
 obtain⟨W,⟨m0,w0⟩,turn⟩:=h;have mE:D≠C:=by walk_at "o"
 have oo:s2.heap.objs.size<=C:=by walk_at "o"
 have qr:s2.heap.objs.size<=D:=by walk_at "o"
 have mF:∀ b∈fp,b<D:=λb hb=>by obtain⟨o,e,_⟩:=T.obj 0 _ gj b hb;exact eD ▸ YA e
 have Na:∀ b,D<=b->b∉aW X.stack:=λb hle z=>by
  rcases YV.mp (I2.nU b z) with q|q
  .have:=I2.lt;walk_at "o"
  .exact I2.BI (eD ▸ hle) q
 have xt:=Ds I2 f2 oo qr;have Dt:tn 0 h1:=T.keep 0 _ _ gj λb _ o e=>keep b o e;have xu:∀ (H':Hp) (o:Obj),(∀ b∈fp,H' b=none)->∀ b∈fp,cV (iq X nm fn scope cl C s2 H2 fp (X.pn++pins)) [(D,o)] H' b:=λH' o hn b hb=>by
  obtain⟨_,d1,d2,d3,d4,d5⟩:=f2 b hb;have lt:=mF b hb;refine⟨hn b hb,?_,λz=>?_,.inl hb,λy c e z=>(aX y c e).2 b hb z,λp hp=>?_⟩
  .show b≠C;walk_at "o"
  .rcases YV.mp (I2.nU b z) with q|q
   .exact d1 q
   .exact d2 q
  .have dP:p∈(X.pn++pins)++[(D,o)]:=hp;rcases YX.mp dP with z|z
   .exact d5 p z
   .have:p=(D,o):=by simpa using z
    subst this;show D≠b;walk_at "o"
 have loop:∀ s':YK,s' = { s2 with heap:=h1,toks:=tk } ->
  abv (model X.prog X.w) X.A (.compLoop (.ListComp elt [⟨tg,iter,ifs,0⟩] scope pos) 0 (.ref it) (.ref D) (agG scope cl C X.env)) (RR (.ref D) C) s':=by
  rintro s' rfl;refine M5 (λn s'=>∃ i zs H' os ai nn,os.length=k/\Inv (iq X nm fn scope cl C s2 H2 fp (X.pn++pins)) [] (os++ρ) H' s'/\tn i s'.heap/\(∀ b∈fp,H' b=none)/\H' D=none /\
   s'.heap.get? D=some { cls:=.type "list",data:=.seq (ai:List YB).toArray nn }/\Vals zs ai/\W i n zs H') ?_ m0 ⟨0,[],H2,xo,[],0,xr,I4,Dt,λb hb=>(f2 b hb).1,I2.ao.fresh qr,hD,.nil,w0⟩
  rintro n s3 ⟨i,zs,H3,Du,ai,nn,Nb,I3,qe,qf,xy,Nc,r3,w3⟩;have Dv:Inv (iq X nm fn scope cl C s2 H2 fp (X.pn++pins)) [(D,{ cls:=.type "list",data:=.seq ai.toArray nn })] (Du++ρ) H3 s3:=I3.mf λp hp=>by
   have:p=(D,{ cls:=.type "list",data:=.seq ai.toArray nn }):=by simpa using hp
   subst this;exact⟨Nc,xy,mE,Na D (YD _),λv z=>nomatch z⟩
  rcases turn i n zs H3 w3 with ⟨stop,hlen,q⟩|⟨go,hlen,N,Dw,step⟩
  .refine Zz (T.done (iq X nm fn scope cl C s2 H2 fp (X.pn++pins)) rfl rfl rfl hc i _ s3 _ H3 (λ_ _=>False) Dv (xu H3 _ qf) qe stop) (λr s4 zq=>?_) λ_ _ z=>z.elim;obtain⟨hr,J4⟩:=zq;subst hr;have un:=J4.base;have Nd:∀ b o,s2.heap.get? b=some o->b≠D:=λb o e=>by have:=YA e;walk_at "o"
   have fz:∀ b u,H3 b=some u->b≠D:=λb u e z=>by rw[z,xy] at e;cases e
   refine xq D C s4 (upd H3 D (.lst zs)) ?_ ?_ ?_ (q D xy)
   .refine I2.wy (ch:=fp) J4.os ⟨un.keep,un.slot,λb o e nn hx=>?_,un.there,λb xs e=>?_,λb o u e=>?_,λb ps e=>?_⟩ (λa o e=>?_) J4.bare λb hb=>?_
    .rw[aC (Nd b o e)];exact un.free b o e nn hx
    .have:=un.dA b xs e;rw[aC (fz b _ this)];exact this
    .have:=un.dJ b o u e;rw[aC (fz b _ this)];exact this
    .obtain⟨more,this⟩:=un.eh b ps e;exact⟨more,by rw[aC (fz b _ this)];exact this⟩
    .by_cases ha:a=D
     .subst ha;rw[az] at e;cases e;exact⟨hlen,ai,nn,r3,(J4.pin (a,_) (YL _ (YZ.mpr rfl))).1⟩
     .rw[aC ha] at e;exact (J4.ao a o e).fh (λ_ _ _ z=>z) (λb z=>by rw[aC (fz b _ z)];exact z) λb xs z=>by rw[aC (fz b _ z)];exact z
    .obtain⟨_,d1,d2,d3,d4,d5⟩:=f2 b hb;exact⟨d3,d1,d4,d5⟩
   .obtain⟨m,hm,_⟩:=J4.loc;exact⟨m,hm⟩
   .exact I2.fq oo (by rw[aC (Zt mE)];exact J4.free)
  .refine Zz (T.item (iq X nm fn scope cl C s2 H2 fp (X.pn++pins)) rfl rfl rfl hc i _ s3 _ H3 (λ_ _=>False) Dv (xu H3 _ qf) qe go) (λr s4 zq=>?_) λ_ _ z=>z.elim;obtain⟨u,hr,h4⟩:=zq;subst hr;refine Zz h4 (λ_ s5 zq=>?_) λ_ _ z=>z.elim;obtain⟨y5,H5,I5,r5,yl,mr,wJ⟩:=zq;have wK:=I5.pinned (xu H5 _ wJ) (T.obj _ _ mr);refine Zz (hg _ s5 _ H5 y5 u _ wK r5 (step Du Nb y5 H5 yl)) (λ_ s6 zq=>?_) λ_ _ z=>z.elim;obtain⟨σ6,H6,I6,um,Dx,e6,q6⟩:=zq;subst e6;have after:∀ (s7:YK) (H7:Hp),Inv (iq X nm fn scope cl C s2 H2 fp (X.pn++pins)) ([(D,{ cls:=.type "list",data:=.seq ai.toArray nn })]++qd fp s5.heap) (um++ρ) H7 s7 ->
    Inv (iq X nm fn scope cl C s2 H2 fp (X.pn++pins)) [] (um++ρ) H7 s7/\tn (i+1) s7.heap/\(∀ b∈fp,H7 b=none)/\H7 D=none/\s7.heap.get? D=some { cls:=.type "list",data:=.seq ai.toArray nn }:=λs7 H7 I7=>by
    have pD:=I7.pin (D,{ cls:=.type "list",data:=.seq ai.toArray nn }) (YL _ (Zl _ (YZ.mpr rfl)));refine⟨I7.mf λp hp=>absurd hp (by simp),T.keep _ _ _ mr λb hb o e=>(I7.pin (b,o) (YL _ (YL _ (tS hb e)))).1,λb hb=>?_,pD.2.1,pD.1⟩;obtain⟨o,e,_⟩:=T.obj _ _ mr b hb;exact (I7.pin (b,o) (YL _ (YL _ (tS hb e)))).2.1
   refine Zz (hb.1 _ s6 _ H6 _ I6 q6) (λok s7 zq=>?_) λ_ _ z=>z.elim;obtain⟨H7,I7,q7⟩:=zq
   try dsimp only at q7
   by_cases ao:ok=true
   .rw[if_pos ao] at q7 ⊢;refine Zz (hb.2 _ s7 _ H7 _ I7 q7) (λyv s8 zq=>?_) λ_ _ z=>z.elim;obtain⟨y8,H8,I8,r8,n8⟩:=zq;obtain⟨m',xA,w8⟩:=Dw _ _ n8;obtain⟨J8,Nf,Ng,Dy,xB⟩:=after s8 H8 I8;have hl:=r3.length;refine agx aeV ⟨_,xB,rfl⟩ aeE (aep _ _) (afj D ai.toArray nn yv (by rw[YI];walk_at "o")) ⟨xB,?_⟩;have Dz:=adL xB (λa=>a.push yv);rw[afk] at Dz;refine⟨m',xA,i+1,zs++[y8],H8,um,ai++[yv],_,Dx,J8.turned (it:=D) (λb o bO e=>(YM _ _ (Zt bO)).trans e) Dy mE (.inr qr) (λy c e z=>?_) (λp hp=>?_),T.keep _ _ _ Nf λb bO o e=>?_,Ng,Dy,Dz,r3.append (.cons r8 .nil),w8⟩
    .exact (aX y c e).1 z
    .have dP:p∈X.pn++pins:=by have:p∈(X.pn++pins)++[]:=hp;simpa using this
     exact (xt p dP).2.1
    .have:=mF b bO;exact (YM _ _ (by walk_at "o")).trans e
   .rw[if_neg ao] at q7 ⊢;obtain⟨m',xA,w7⟩:=Dw _ _ q7;obtain⟨J7,Nh,Ni,Nj,Nk⟩:=after s7 H7 I7;exact⟨m',xA,i+1,zs,H7,um,ai,nn,Dx,J7,Nh,Ni,Nj,Nk,r3,w7⟩
 exact codeAny_compStart_list (loop _ rfl) (T.self X.A 0 _ _ _ Dt (loop _ rfl))
theorem DA{J:It}{fp:List YN}{it:YN}{tn:Nat->aa4->Prop}{E:YB->YK->Prop}{Q:VK}{RR:YB->YN->afx->YK->Prop}
 (S:kY X own scope cl fr ys) (hc:X.calm=true) (hg:∀ (C:YN) (s:YK) (H:Hp) (ex:List YN) (pn:List (YN × Obj)),PG (df X (own++ys) scope cl C s H ex pn) tg g)
 (hb:∀ (C:YN) (s:YK) (H:Hp) (ex:List YN) (pn:List (YN × Obj)),jR (df X (own++ys) scope cl C s H ex pn) ifs tt/\PE (df X (own++ys) scope cl C s H ex pn) elt te)
 (I2:Inv X pins σ H2 s2) (T:Turn X.prog X.w X.K tg J fp it tn) (gj:tn 0 s2.heap) (f2:∀ b∈fp,cV X pins H2 b)
 (h:jS own.length J g (fr.map λj=>(σ[j]?).join) tt te H2 Q)
 (xq:∀ D C s' H',Inv X pins σ H' s'->(∃ m,s'.heap.Ns C m)->cV X pins H' C->Q (.ref D) H'->RR (.ref D) C (.ok .next) s') :
 YT (model X.prog X.w) X.A (ahc []) (λacc s3=>YT (model X.prog X.w) X.A (newFunctionEnv scope X.env.globals cl [] X.env.qual none .none (some X.env)) (λDB s4 =>
  abv (model X.prog X.w) X.A (.compStart (.ListComp elt [⟨tg,iter,ifs,0⟩] scope pos) 0 (.ref it) acc { DB with scope:=relabel scope X.env }) (RR acc DB.locals) s4) E s3) E s2:=by
 refine ZR (wpAny_newFunctionEnv (λy hy=>by simpa using aaP.mp S.nocell y hy) (λy hy=>absurd hy (by simp)) (λh1 my je=>?_) S.kind);dsimp only at my je ⊢;generalize eP:s2.heap.push { cls:=.type "list",dict:=none,data:=.seq ([]:List YB).toArray }=P2 at my je ⊢;have sz:P2.objs.size=s2.heap.objs.size+1:=by rw[<- eP,aap]
 have mE:s2.heap.objs.size≠P2.objs.size:=by walk_at "o"
 have keep:∀ b o,s2.heap.get? b=some o->h1.get? b=some o:=λb o e=>by have lt:=YA e;exact je.extBut b o (by walk_at "o") (Yy _ (eP ▸ Yy _ e))
 have hD:h1.get? s2.heap.objs.size=some { cls:=.type "list",data:=.seq ([]:List YB).toArray 0 } :=
  je.extBut _ _ mE (Yy _ (eP ▸ YH _ rfl))
 generalize eC:P2.objs.size=C at my je mE ⊢;generalize eD:s2.heap.objs.size=D at mE hD;have oo:s2.heap.objs.size<=C:=by walk_at "o"
 have qr:s2.heap.objs.size<=D:=by walk_at "o"
 have mF:∀ b∈fp,b<s2.heap.objs.size:=λb hb=>by obtain⟨o,e,_⟩:=T.obj 0 _ gj b hb;exact YA e
 have Nl:(df X (own++ys) scope cl C s2 H2 fp (X.pn++pins)).Ok:=M7 S I2 f2 oo (λb hb=>by have:=mF b hb;walk_at "o");have xt:=Ds I2 f2 oo qr;have I4:Inv (df X (own++ys) scope cl C s2 H2 fp (X.pn++pins)) [] ((own.map λ_=>none)++fr.map λj=>(σ[j]?).join) H2 { s2 with heap:=h1,toks:=s2.toks+([]:List (Str × YB)).length }:=by
  refine⟨Nl,rfl,I2.bare,Un.kept keep,⟨_,my,λi y v e1 e2 e3=>?_⟩,λy c e=>?_,I2.ao.fresh oo,λy c e=>I2.el y c (S.cls.get y c e),λp hp=>?_,I2.ao.kept keep,?_⟩
  .by_cases hio:i<own.length
   .rw[Zx (by simpa using hio)] at e2;simp[hio] at e2
   .rw[ZD (by simp;lia)] at e2;have uo:ys[i-own.length]?=some y:=by
     have:(own++ys)[i]?=some y:=e1
     rwa [ZD (by lia)] at this
    rw[Yw] at e2;obtain⟨j,c,hN,hσ,hk,Nm,uq⟩:=S.aW.get (i-own.length) y v uo e2;obtain⟨m,hm,hl⟩:=I2.loc;obtain⟨u,ru,lu⟩:=hl j y v hN hσ (.inr (.inl hk));refine⟨u,ru,.inr ⟨.inl ?_,c,Nm,?_⟩⟩
    .have z:=aaP.mp S.kfr y (Y6 uo);exact (by simpa using z:(relabel scope X.env).names.lookup y=some .cell)
    .rcases lu with ⟨z,_⟩|⟨_,c',e',q'⟩
     .rw[hk] at z;cases z
     .rw[uq] at e';cases e';obtain⟨o,ho,hd⟩:=q';exact⟨o,keep _ _ ho,hd⟩
  .obtain⟨v,o,ho,hd⟩:=I2.cell y c (S.cls.get y c e);exact⟨v,o,keep _ _ ho,hd⟩
  .have dP:p∈X.pn++pins:=by have:p∈(X.pn++pins)++[]:=hp;simpa using this
   obtain⟨e,n,_,_,d⟩:=I2.pin p dP;obtain⟨p1,_,p3,_⟩:=xt p dP;exact⟨keep _ _ e,n,p1,p3,d⟩
  .show ((own.map λ_=>(none:Option V))++fr.map λj=>(σ[j]?).join).length=(own++ys).length;simp[S.aW.len]
 refine M9 hc (hg C s2 H2 fp (X.pn++pins)) (hb C s2 H2 fp (X.pn++pins)) I2 T gj f2 h xq (by simp) I4 keep hD eD (sz.symm.trans eC) λy c e=>?_;obtain⟨v,o,ho,_⟩:=I2.cell y c (S.cls.get y c e);have:=YA ho;exact⟨by walk_at "o",λb hb z=>(f2 b hb).2.2.2.2.1 y c (S.cls.get y c e) z⟩
theorem DC{wi:TI}{B:L2.St->It->Hp->VK->Prop}(S:kY X own scope cl fr ys)(hc:X.calm=true)(hi:PI X tg iter wi)(hg:∀ (C:YN) (s:YK) (H:Hp) (ex:List YN) (pn:List (YN × Obj)),PG (df X (own++ys) scope cl C s H ex pn) tg g)
 (hb:∀ (C:YN) (s:YK) (H:Hp) (ex:List YN) (pn:List (YN × Obj)),jR (df X (own++ys) scope cl C s H ex pn) ifs tt/\PE (df X (own++ys) scope cl C s H ex pn) elt te)
 (hB:∀ ρ J H Q,B ρ J H Q->jS own.length J g ρ tt te H Q) (hs:∀ z,aaY iter X.env z=pure z:=by intro _;rfl):PE X (.ListComp elt [⟨tg,iter,ifs,0⟩] scope pos) (λσ H Q=>wi σ H λJ H1=>B (fr.map λj=>(σ[j]?).join) J H1 Q):=by
 intro pins s σ H Q I h;rw[eval_ListComp];refine adm (use:=none) rfl hs S.clos S.kind (λy hy hl=>?_) (aD (hi pins s σ H _ I h) λxv s1 h1=>aD h1 λtQ s2 h2=>?_)
 .have z:=aaP.mp S.names y hy;rw[hl] at z;simpa using z
 .obtain⟨it,fp,tn,J,H2,rfl,I2,T,gj,f2,jT⟩:=h2;refine DA (RR:=λacc C=>compPost (model X.prog X.w) X.A X.xe none (EP X pins σ Q) acc C) S hc hg hb I2 T gj f2 (hB _ _ _ _ jT) λD C s' H' J' hn fC q=>?_;obtain⟨m,hm⟩:=hn;obtain⟨c0,c1,c2,c3,c4,c5⟩:=fC;exact⟨m,hm,λh' sb=>⟨.ref D,H',J'.turned (it:=C) (λb o hb e=>sb.extBut b o hb e) c0 c1 c3 c4 c5,rfl,q⟩⟩
theorem Nn{wi:TI}{B:L2.St->It->Hp->VK->Prop}{y:Str}{py ur:Pos}{i:Nat}(S:kY X own scope cl fr ys)(hc:X.calm=true)(hN:X.N.Nodup)(hy:X.N[i]?=some y)(hl:X.env.scope.names.lookup y=some .local)(hi:PI X tg iter wi)(hg:∀ (C:YN) (s:YK) (H:Hp) (ex:List YN) (pn:List (YN × Obj)),PG (df X (own++ys) scope cl C s H ex pn) tg g)
 (hb:∀ (C:YN) (s:YK) (H:Hp) (ex:List YN) (pn:List (YN × Obj)),jR (df X (own++ys) scope cl C s H ex pn) ifs tt/\PE (df X (own++ys) scope cl C s H ex pn) elt te)
 (hB:∀ ρ J H Q,B ρ J H Q->jS own.length J g ρ tt te H Q) (xC:acw (.ListComp elt [⟨tg,iter,ifs,0⟩] scope pos) (some (.Name y py)) ur.line X.env=pure true:=by rfl)
 (hs:∀ z,aaY iter X.env z=pure z:=by intro _;rfl):PS X (.Assign [.Name y py] (.ListComp elt [⟨tg,iter,ifs,0⟩] scope pos) ur) (xn i λσ H Q=>wi σ H λJ H1=>B (fr.map λj=>(σ[j]?).join) J H1 Q):=by
 intro pins s σ H Dn I h;rw[exec_Assign_Name_used _ _ _ _ xC];refine Yt (aeR (Yt ?_));show YT _ X.A (do let _ <- comprehension (.ListComp elt [⟨tg,iter,ifs,0⟩] scope pos) scope X.env _ (ahc []) false (eval iter X.env) (some (assign (.Name y py) X.env))) _ _ s;refine Yt (aD (adm (use:=some (assign (.Name y py) X.env)) (Q:=λ_ s'=>SP X pins Dn .next s') rfl hs S.clos S.kind (λz hz hl=>?_) (aD (hi pins s σ H _ I h) λxv s1 h1=>aD h1 λtQ s2 h2=>?_)) λ_ s' hq=>Yz (Yz hq))
 .have z':=aaP.mp S.names z hz;rw[hl] at z';simpa using z'
 .obtain⟨it,fp,tn,J,H2,rfl,I2,T,gj,f2,jT⟩:=h2;refine DA (RR:=λacc C=>compPost (model X.prog X.w) X.A X.xe (some (assign (.Name y py) X.env)) (λ_ s'=>SP X pins Dn .next s') acc C) S hc hg hb I2 T gj f2 (hB _ _ _ _ jT) λD C s' H' J' hn fC q=>?_;obtain⟨m,oC,es,ep,ho,hd,hr⟩:=hn;obtain⟨c0,c1,c2,c3,c4,c5⟩:=fC;have J2:Inv X (pins++[(C,oC)]) σ H' s':=J'.mf λp hp=>by
   rcases YX.mp hp with z|z
   .exact J'.pin p (YL _ z)
   .have:p=(C,oC):=by simpa using z
    subst this;exact⟨ho,c0,c1,c2,λv z=>by rw[hd] at z;cases z⟩
  show YT _ X.A (assign (.Name y py) X.env (.ref D)) _ _ _;refine aD (iX (X:=X) hN hy (.inl hl) (.inr hl) _ s' σ H' (.ref D) (.ref D) (λσ' kZ=>σ'=σ.set i (some (.ref D))/\kZ=H') J2 rfl ⟨rfl,rfl⟩) λ_ s3 zq=>?_;obtain⟨σ3,H3,J3,e1,e2⟩:=zq;subst e1 e2;obtain⟨pc,Ya,_⟩:=J3.pin (C,oC) (YL _ (YL _ (YZ.mpr rfl)));refine⟨m,⟨oC,es,ep,pc,hd,hr⟩,λh' sb=>⟨_,H3,J3.mq.turned (it:=C) (λb o hb e=>sb.extBut b o hb e) c0 c1 c3 c4 c5,q⟩⟩
theorem DD(S:kY X own scope cl fr ys)(hc:X.calm=true)(hi:PI X tg iter wi)(hg:∀ (C:YN) (s:YK) (H:Hp) (ex:List YN) (pn:List (YN × Obj)),PG (df X (own++ys) scope cl C s H ex pn) tg g)(hb:∀ (C:YN) (s:YK) (H:Hp) (ex:List YN) (pn:List (YN × Obj)),jR (df X (own++ys) scope cl C s H ex pn) ifs tt/\PE (df X (own++ys) scope cl C s H ex pn) elt te)(hs:∀ z,aaY iter X.env z=pure z:=by intro _;rfl):PE X (.ListComp elt [⟨tg,iter,ifs,0⟩] scope pos) (Dp own.length wi g fr tt te):=DC (B:=λρ J H Q=>jS own.length J g ρ tt te H Q) S hc hi hg hb (λ_ _ _ _ h=>h) hs
end
theorem DE(h:kX J ρ tt te H Q):jS 1 J (cJ 0) ρ tt te H Q:=by
 obtain⟨W,w0,turn⟩:=h;refine⟨W,w0,λi m ys H hw=>(turn i m ys H hw).imp id λ⟨a,b,N,hN,st⟩=>⟨a,b,N,hN,λos ho x H' y=>?_⟩⟩
 match os,ho with
 | [_],_=>exact⟨[some x],rfl,rfl,st x H' y⟩
section
theorem bC.g(S:bC X x scope cl fr ys):kY X [x] scope cl fr ys:=⟨S.clos,S.nocell,S.kind,S.names,S.kinds,S.cls,S.aW,S.kfr⟩
theorem bC.pg(S:bC X x scope cl fr ys)(C:YN)(s:YK)(H:Hp)(ex:List YN)(pn:List (YN × Obj)):PG (df X ([x]++ys) scope cl C s H ex pn) (.Name x px) (cJ 0) :=
 iX (X:=df X (x::ys) scope cl C s H ex pn) (i:=0) S.nd rfl (.inl (Zm S.own)) (.inr (Zm S.own))
theorem cN(S:bC X x scope cl fr ys)(hc:X.calm=true)(hi:PI X (.Name x px) iter wi)(hb:∀ (C:YN) (s:YK) (H:Hp) (ex:List YN) (pn:List (YN × Obj)),jR (df X (x::ys) scope cl C s H ex pn) ifs tt/\PE (df X (x::ys) scope cl C s H ex pn) elt te)(hs:∀ z,aaY iter X.env z=pure z:=by intro _;rfl):PE X (.ListComp elt [⟨.Name x px,iter,ifs,0⟩] scope pos) (xm wi fr tt te):=DC (B:=λρ J H Q=>kX J ρ tt te H Q) S.g hc hi S.pg hb (λ_ _ _ _ h=>DE h) hs
theorem jU(S:bC X x scope cl fr ys)(hc:X.calm=true)(hN:X.N.Nodup)(hy:X.N[i]?=some y)(hl:X.env.scope.names.lookup y=some .local)(hi:PI X (.Name x px) iter wi)(hb:∀ (C:YN) (s:YK) (H:Hp) (ex:List YN) (pn:List (YN × Obj)),jR (df X (x::ys) scope cl C s H ex pn) ifs tt/\PE (df X (x::ys) scope cl C s H ex pn) elt te)(xC:acw (.ListComp elt [⟨.Name x px,iter,ifs,0⟩] scope pos) (some (.Name y py)) ur.line X.env=pure true:=by rfl)(hs:∀ z,aaY iter X.env z=pure z:=by intro _;rfl):PS X (.Assign [.Name y py] (.ListComp elt [⟨.Name x px,iter,ifs,0⟩] scope pos) ur) (xn i (xm wi fr tt te)):=Nn (B:=λρ J H Q=>kX J ρ tt te H Q) S.g hc hN hy hl hi S.pg hb (λ_ _ _ _ h=>DE h) xC hs
end
def dW(Ok:Hp->Prop)(ρ:L2.St)(tt:TT)(te:TE):List V->List V->Hp->(List V->Hp->Prop)->Prop
 | [],ys,H,Q=>Ok H/\Q ys H
 | x::r,ys,H,Q=>Ok H/\tt (some x::ρ) H λb H1=>if b=true then te (some x::ρ) H1 λy H2=>dW Ok ρ tt te r (ys++[y]) H2 Q else dW Ok ρ tt te r ys H1 Q
structure qt(J:It)(Ok:Hp->Prop)(xs:List V):Prop where
 go:∀ i H x,Ok H->xs[i]?=some x->J.go i H
 yld:∀ i H x H',Ok H->J.yld i H x H'->H'=H/\(i<xs.length->xs[i]?=some x)
 stop:∀ i H,Ok H->xs.length<=i->J.stop i H
section
variable{J:It}{Ok:Hp->Prop}{xs:List V}{ρ:L2.St}{tt:TT}{te:TE}{H:Hp}{Q:VK}{K:Yu}{a:YN}
theorem bS(O:qt J Ok xs)(hn:xs.length<=Y0)(h:dW Ok ρ tt te xs [] H λys H'=>∀ l,H' l=none->Q (.ref l) (upd H' l (.lst ys))):kX J ρ tt te H Q:=by
 refine⟨λi m ys H=>m=xs.length-i/\i<=xs.length/\ys.length<=i/\dW Ok ρ tt te (xs.drop i) ys H λys H'=>∀ l,H' l=none->Q (.ref l) (upd H' l (.lst ys)),⟨_,rfl,Zc _,YD _,h⟩,?_⟩;rintro i m ys H ⟨rfl,hi,hy,g⟩;by_cases aU:i<xs.length
 .have e:=ZS aU;rw[e] at g;obtain⟨g0,g1⟩:=g;refine .inr ⟨O.go i H _ g0 (Yx aU),by walk_at "o",λzs H'=>zs.length<=i+1/\dW Ok ρ tt te (xs.drop (i+1)) zs H' λys H'=>∀ l,H' l=none->Q (.ref l) (upd H' l (.lst ys)),λzs H' q=>⟨_,by walk_at "o",rfl,aU,q.1,q.2⟩,λx H' y=>?_⟩;obtain⟨rfl,ex⟩:=O.yld i H x H' g0 y;have ex:=ex aU;rw[Yx aU] at ex;cases ex;have l1:∀ y:V,(ys++[y]).length<=i+1:=λy=>by rw[YJ,YR];walk_at "o"
  have l2:ys.length<=i+1:=by walk_at "o"
  simp only[l1,l2,true_and];exact g1
 .have e:i=xs.length:=by walk_at "o"
  subst e;rw[afG] at g;exact .inl ⟨O.stop _ H g.1 (YD _),by walk_at "o",g.2⟩
theorem fA:qt (iY K a) (λH=>ah K H a xs) xs :=
 ⟨λ_ _ _ h e=>⟨xs,_,h,e⟩,λ_ _ _ _ h y=>⟨y.1,λ_=>y.2 xs h⟩,λ_ _ h hi=>⟨xs,h,hi⟩⟩
theorem xD:qt (qc K a) (λH=>aj K H a xs) xs :=
 ⟨λ_ _ _ h e=>⟨xs,_,h,e⟩,λ_ _ _ _ h y=>⟨y.1,λ_=>y.2 xs h⟩,λ_ _ h hi=>⟨xs,h,hi⟩⟩
theorem ir{lo:Int}{n:Nat}:qt (eU lo n) (λ_=>True) ((Y1 n).map λk=>V.int (lo+(k:Nat))) :=
 ⟨λi _ _ _ e=>by
  have:=(YC.mp e).1;show i<n;simpa using this,λi _ _ _ _ y=>⟨y.1,λhi=>by
   have cu:i<n:=by simpa using hi
   rw[y.2,YF,Zb cu];rfl⟩,λi _ _ hi=>by
   show n<=i;simpa using hi⟩
theorem oq(bT:Ok H):∀ {xs ys:List V},(∀ x∈xs,∀ Q,Q (p x) H->tt (some x::ρ) H Q)->(∀ x∈xs,p x=true->∀ Q,Q (f x) H->te (some x::ρ) H Q)->Q' (ys++(xs.filter p).map f) H->dW Ok ρ tt te xs ys H Q'
 | [],ys,_,_,q=>⟨bT,by simpa using q⟩
 | x::r,ys,ht,he,q=>by
  refine⟨bT,ht x (.head _) _ ?_⟩;by_cases hb:p x=true
  .rw[if_pos hb];refine he x (.head _) hb _ (oq bT (λy hy=>ht y (.tail _ hy)) (λy hy=>he y (.tail _ hy)) ?_);rw[Zs,if_pos hb] at q;simpa using q
  .rw[if_neg hb];refine oq bT (λy hy=>ht y (.tail _ hy)) (λy hy=>he y (.tail _ hy)) ?_;rw[Zs,if_neg hb] at q;exact q
end
section
variable{X:Cx}{K:Yu}
theorem Np(h:X.K=K):i7 X (jK K):=h ▸ bh
theorem Nq(h:X.K=K):dN X (.builtin "len") (λxs H Q=>∃ x n,xs=[x]/\tV K x H n/\Q (.int n) H):=h ▸ cK
theorem Nr(h:X.K=K):ba X (Z5 .NotIn) (t6 K true):=h ▸ LF
end
theorem Nt{prog:Zy}{w:aaa}{A:aaq}{E:YB->YK->Prop}{s:YK}{id:String}{b:aas}{args:List YB}{kw:List (Str × YB)}{Q:YB->YK->Prop}(hk:aeF id=none)(hp:af5 id=true)
 (hb:acT table id=some b) (ha:adM id ⟨args,kw⟩)
 (hc:YT (model prog w) A.in1 (b ⟨args,kw⟩) (λfin s'=>match fin with
   | .done f=>(match (Except.ok f:afx) with|.ok (.ret v)=>Q v s'|.ok _=>False|.error e=>E e s')
   | .again c'=>c'.quiet=true/\abv (model prog w) A c' (λr s'=>match r with|.ok (.ret v)=>Q v s'|.ok _=>False|.error e=>E e s') s') E s) :
 YT (model prog w) A (call (.builtin id) args kw) Q E s:=by
 refine ael (abw hp hb ?_);simp only[acm,hk];cases hsig:Manifest.signature? id with
 | none=>exact Yz hc
 | some sig =>
  have qo:Bind.checkArgs id sig ⟨args,kw⟩=pure ():=by simpa only [adM,hsig] using ha
  simp only[qo];exact Yz hc
noncomputable def xE:{ F:String->CmpOp->aas // F "max" .Gt=aas.«max.loop»/\F "min" .Lt=aas.«min.loop» }:=⟨_,rfl,rfl⟩
noncomputable def DF:{ F:String->aas // F "max" = aas.«max»/\F "min" = aas.«min» }:=⟨_,rfl,rfl⟩
theorem DG{nx id:String}{op:CmpOp}(nm:(toString nx++toString ".loop" : String)=id)(e1:acT table id=some (xE.1 nx op))(e2:af5 id=true){prog:Zy}{w:aaa}{A:aaq}{R:afx->YK->Prop}{I S:YN}{fp wr:List YN}{n:Nat}{P:Nat->YB->Prop}{St:Nat->aa4->Prop}{G:aa4->Prop}{bt:Nat->Nat->Bool}{kw:List (Str × YB)}
 (W:Walks prog w A.in1 I fp wr n P St) (hG:∀ h h',G h->(∀ b o,b∉wr->b≠S->h.get? b=some o->h'.get? b=some o)->G h')
 (qu:∀ i j vi vj (s:YK) (Q:YB->YK->Prop) (E:YB->YK->Prop),P i vi->P j vj->G s.heap->Q (.bool (bt i j)) s->YT (model prog w) A.in1 (adA op vi vj) Q E s) (hS:S∉fp):∀ (k j:Nat) (s:YK) (vb:YB) (c:Nat),k+(j+1)=n->St (j+1) s.heap->G s.heap->P (acC bt j) vb ->
  s.heap.get? S=some { cls:=.type "list",dict:=none,data:=.seq #[vb,vb] c,slots:=#[] } ->
  (∀ v h' tk,P (acC bt (n-1)) v->(∀ b o,b∉wr->b≠S->s.heap.get? b=some o->h'.get? b=some o)->R (.ok (.ret v)) { s with heap:=h',toks:=tk }) ->
  abv (model prog w) A (.builtin id ⟨[.ref I,.none,.ref S],kw⟩) R s:=by
 have nS:S∉wr:=λz=>hS (W.sub _ z);intro k
 induction k with
 | zero =>
  intro j s vb c e st g pb oS fin;have e':j+1=n:=by walk_at "o"
  refine ZI e1 ?_;rw[Zv e2 _];show YT _ A.in1 (aeX (.ref S) >>= _) _ _ s;refine Yt (abx oS rfl ?_);show YT _ A.in1 (tryCatch (abe (.ref I)) _ >>= _) _ _ s;refine Yt (aby (W.done s _ _ (e' ▸ st) λh1 tk kp=>?_));have iu:=kp S _ nS oS;show YT _ A.in1 (adn S (λ_=>#[]) >>= _) _ _ _;refine Yt ?_;refine aaJ iu rfl (Yt (abg (Yz ?_)));exact fin vb _ tk (by rw[<- e'];exact pb) λb o hw hb q=>(YM _ _ (Zt hb)).trans (kp b o hw q)
 | succ k ih =>
  intro j s vb c e st g pb oS fin;have lt:j+1<n:=by walk_at "o"
  refine ZI e1 ?_;rw[Zv e2 _];show YT _ A.in1 (aeX (.ref S) >>= _) _ _ s;refine Yt (abx oS rfl ?_);show YT _ A.in1 (tryCatch (abe (.ref I)) _ >>= _) _ _ s;refine Yt (aby (W.item (j+1) s _ _ lt st λv h1 tk pv ot kp=>?_));have iu:=kp S _ nS oS;have g1:G h1:=hG _ _ g λb o hw _ q=>kp b o hw q;show YT _ A.in1 (tryCatch (holding [v,v] (adA op v vb >>= _)) _ >>= _) _ _ _;refine Yt (aby (ZN (Yt (qu (j+1) (acC bt j) v vb _ _ _ pv pb g1 ?_))));refine Yt (ZN (ZH ?_));refine Yt (abg (Yz ?_));cases hb:bt (j+1) (acC bt j) with
  | true =>
   simp only[if_true];refine Yt ?_;refine aaJ iu rfl (Yt (abg ?_));rw[nm];refine Yz ⟨aaB e2 _,ih (j+1) _ v _ (by walk_at "o") (W.frame _ _ _ ot λb hf o q=>?_) (hG _ _ g1 λb o _ k6 q=>(YM _ _ (Zt k6)).trans q) (by simp only[acC,hb,if_true];exact pv) (Zo _ iu rfl) λv2 h2 uu p2 k2=>?_⟩
   .exact (YM _ _ (λz:S=b=>hS (by rw[z];exact hf))).trans q
   .exact fin v2 h2 uu p2 λb o hw k6 q=>k2 b o hw k6 ((YM _ _ (Zt k6)).trans (kp b o hw q))
  | false =>
   simp only[Y5,if_false];refine Yt (abg ?_);rw[nm];refine Yz ⟨aaB e2 _,ih (j+1) _ vb c (by walk_at "o") ot g1 (by simp only[acC,hb,Y5,if_false];exact pb) iu λv2 h2 uu p2 k2=>?_⟩;exact fin v2 h2 uu p2 λb o hw k6 q=>k2 b o hw k6 (kp b o hw q)
theorem Nu{nx id:String}{op:CmpOp}(nm:(toString nx++toString ".loop" : String)=id)(e1:acT table id=some (xE.1 nx op))(e2:af5 id=true)(k0:aeF nx=none)(k1:af5 nx=true)(k2:acT table nx=some (DF.1 nx))(k3:∀ a d:YB,adM nx ⟨[a],[("default",d)]⟩){prog:Zy}{w:aaa}{A:aaq}{E:YB->YK->Prop}{s:YK}{l:YN}{xs:Array (Int × Tok)}{d:YB}{Q:YB->YK->Prop}{bt:Nat->Nat->Bool}(e4:CmpOf prog w A.in1 op (λi v=>(aax xs)[i]?=some v) bt)(hh:A.handled=none)(hl:s.heap.IsList l (aax xs))
 (h0:xs.size=0->∀ h' tk,(∀ b o,s.heap.get? b=some o->h'.get? b=some o)->Q d { s with heap:=h',toks:=tk })
 (h1:0<xs.size->∀ v h' tk,(aax xs)[acC bt (xs.size-1)]?=some v->(∀ b o,s.heap.get? b=some o->h'.get? b=some o)->Q v { s with heap:=h',toks:=tk }) :
 YT (model prog w) A (call (.builtin nx) [.ref l] [("default",d)]) Q E s:=by
 refine Nt k0 k1 k2 (k3 _ _) ?_;show YT _ A.in1 (aaK _ ["key","default"] 0 ⟨[],[("default",d)]⟩ >>= _) _ _ s;refine Yt (adB (show aaK _ ["key","default"] 0 ⟨[],[("default",d)]⟩=pure [none,some d] from rfl) ?_);refine Yt (Yz ?_);refine Yt (iter_intList hl λs2 e2 st mF Nv=>?_);subst e2;refine Yt (ZR ?_);have W:=Walks.list (prog:=prog) (w:=w) (A:=A.in1) hh s.heap.objs.size l Nv (aax xs);generalize eP:(s.heap.push { cls:=.type "list_iterator",data:=.fields #[.ref l,.int 0 0] })=P2 at st mF ⊢;have ou:P2.objs.size∉[s.heap.objs.size,l]:=λz=>Z6 _ (mF _ z);have up:∀ b o,s.heap.get? b=some o->b≠P2.objs.size/\b∉[s.heap.objs.size]/\(P2.push { cls:=.type "list",dict:=none,data:=.seq ([]:List YB).toArray }).get? b=some o:=λb o q=>by
  have lt:=YA q;have q2:P2.get? b=some o:=by rw[<- eP];exact Yy _ q
  refine⟨YS (YA q2),λz=>?_,Yy _ q2⟩;have:b=s.heap.objs.size:=by simpa using z
  walk_at "o"
 rw[nm];refine Yz ⟨aaB e2 _,?_⟩;have oS:(P2.push { cls:=.type "list",dict:=none,data:=.seq ([]:List YB).toArray }).get? P2.objs.size=some { cls:=.type "list",dict:=none,data:=.seq #[] 0,slots:=#[] }:=YH _ rfl;have b0:=W.frame 0 P2 (P2.push { cls:=.type "list",dict:=none,data:=.seq ([]:List YB).toArray }) st λb _ o q=>Yy _ q;have nS:P2.objs.size∉[s.heap.objs.size]:=λz=>ou (by simp at z;simp[z]);by_cases hz:xs.size=0
 .have xF:(P2.push { cls:=.type "list",dict:=none,data:=.seq ([]:List YB).toArray }).IsListIter s.heap.objs.size l (aax xs).size/\(P2.push { cls:=.type "list",dict:=none,data:=.seq ([]:List YB).toArray }).IsList l (aax xs):=by
   have:(aax xs).size=0:=by simpa [aax] using hz
   rw[this];exact b0
  refine ZI e1 ?_;rw[Zv e2 _];show YT _ A.in1 (aeX (.ref P2.objs.size) >>= _) _ _ _;refine Yt (abx oS rfl ?_);show YT _ A.in1 (tryCatch (abe (.ref s.heap.objs.size)) _ >>= _) _ _ _;refine Yt (aby (W.done _ _ _ xF λh2 tk kp=>?_));refine Yt (abn (Yz ?_));exact h0 hz h2 tk λb o q=>kp b o (up b o q).2.1 (up b o q).2.2
 .have hp:0<xs.size:=by walk_at "o"
  have hn:0<(aax xs).size:=by simpa [aax] using hp
  refine ZI e1 ?_;rw[Zv e2 _];show YT _ A.in1 (aeX (.ref P2.objs.size) >>= _) _ _ _;refine Yt (abx oS rfl ?_);show YT _ A.in1 (tryCatch (abe (.ref s.heap.objs.size)) _ >>= _) _ _ _;refine Yt (aby (W.item 0 _ _ _ hn b0 λv h2 tk pv ot kp=>?_));have iu:=kp _ _ nS oS;show YT _ A.in1 (adn P2.objs.size (λ_=>#[v,v]) >>= _) _ _ _;refine Yt ?_;refine aaJ iu rfl ?_;rw[nm];refine Yz ⟨aaB e2 _,DG nm e1 e2 (G:=λ_=>True) W (λ_ _ _ _=>trivial) (λi j vi vj s Q E h1 h2 _ q=>e4 i j vi vj s Q E h1 h2 q) ou ((aax xs).size-1) 0 _ v _ (by walk_at "o") (W.frame _ _ _ ot λb hf o q=>?_) trivial pv (Zo _ iu rfl) λv2 h3 xG p3 k3=>?_⟩
  .exact (YM _ _ (λz:P2.objs.size=b=>ou (by rw[z];exact hf))).trans q
  .refine h1 hp v2 h3 xG (by simpa [aax] using p3) λb o q=>?_;exact k3 b o (up b o q).2.1 (up b o q).1 ((YM _ _ (Zt (up b o q).1)).trans (kp b o (up b o q).2.1 (up b o q).2.2))
noncomputable def jf:List Int->Int
 | []=>0
 | x::r=>r.foldl (λb y=>if y > b then y else b) x
noncomputable def jV:List Int->Int
 | []=>0
 | x::r=>r.foldl (λb y=>if y<b then y else b) x
theorem DH:∀ (r:List Int) (b:Int),b<=r.foldl (λb y=>if y > b then y else b) b/\(∀ y∈r,y<=r.foldl (λb y=>if y > b then y else b) b)/\(r.foldl (λb y=>if y > b then y else b) b=b∨r.foldl (λb y=>if y > b then y else b) b∈r)
 | [],b=>⟨ZJ _,λ_ z=>(nomatch z),.inl rfl⟩
 | x::r,b=>by
  simp only[acD];obtain⟨h1,h2,h3⟩:=DH r (if x > b then x else b);refine⟨?_,λy hy=>?_,?_⟩
  .refine abO ?_ h1;split<;>lia
  .rcases YV.mp hy with rfl|hy
   .refine abO ?_ h1;split<;>lia
   .exact h2 y hy
  .rcases h3 with h3|h3
   .rw[h3];split
    .right;simp
    .left;rfl
   .right;exact Zu _ h3
theorem DI:∀ (r:List Int) (b:Int),r.foldl (λb y=>if y<b then y else b) b<=b/\(∀ y∈r,r.foldl (λb y=>if y<b then y else b) b<=y)/\(r.foldl (λb y=>if y<b then y else b) b=b∨r.foldl (λb y=>if y<b then y else b) b∈r)
 | [],b=>⟨ZJ _,λ_ z=>(nomatch z),.inl rfl⟩
 | x::r,b=>by
  simp only[acD];obtain⟨h1,h2,h3⟩:=DI r (if x<b then x else b);refine⟨?_,λy hy=>?_,?_⟩
  .refine abO h1 ?_;split<;>lia
  .rcases YV.mp hy with rfl|hy
   .refine abO h1 ?_;split<;>lia
   .exact h2 y hy
  .rcases h3 with h3|h3
   .rw[h3];split
    .right;simp
    .left;rfl
   .right;exact Zu _ h3
theorem DJ(h:ns≠[]):jf ns∈ns/\∀ y∈ns,y<=jf ns:=by
 cases ns with
 | nil=>exact absurd rfl h
 | cons x r =>
  obtain⟨h1,h2,h3⟩:=DH r x;refine⟨?_,λy hy=>?_⟩
  .rcases h3 with h3|h3
   .show r.foldl _ x∈_;rw[h3];exact .head _
   .exact .tail _ h3
  .rcases YV.mp hy with rfl|hy
   .exact h1
   .exact h2 y hy
theorem DK(h:ns≠[]):jV ns∈ns/\∀ y∈ns,jV ns<=y:=by
 cases ns with
 | nil=>exact absurd rfl h
 | cons x r =>
  obtain⟨h1,h2,h3⟩:=DI r x;refine⟨?_,λy hy=>?_⟩
  .rcases h3 with h3|h3
   .show r.foldl _ x∈_;rw[h3];exact .head _
   .exact .tail _ h3
  .rcases YV.mp hy with rfl|hy
   .exact h1
   .exact h2 y hy
theorem qv:∀ {ns:List Int} {ai:List YB},Vals (ns.map V.int) ai->∃ xs:Array (Int × Tok),ai.toArray=aax xs/\xs.toList.map (·.1)=ns
 | [],_,.nil=>⟨#[],by simp[aax],rfl⟩
 | n::ns,_,.cons (l₂:=ai) r t=>by
  obtain⟨xs,e1,e2⟩:=qv (ns:=ns) t;obtain⟨tk,rfl⟩:=r;refine⟨((n,tk)::xs.toList).toArray,?_,?_⟩
  .have:ai=xs.toList.map (λp=>aaX p.1 p.2):=by have:=congrArg afw e1;simpa [aax] using this
   simp[aax,this]
  .simp[e2]
theorem DL(e:xs.toList.map (·.1)=ns)(hi:i<xs.size):aeG xs i∈ns/\aeG xs i=ns.getD i 0:=by subst e;unfold aeG;rw[Zj hi];refine⟨YO.mpr ⟨xs[i],by simp,rfl⟩,?_⟩;simp[hi]
theorem DM(e:xs.toList.map (·.1)=ns)(hy:y∈ns):∃ i,i<xs.size/\aeG xs i=y:=by
 subst e;obtain⟨p,hp,rfl⟩:=YO.mp hy;obtain⟨i,hi,e⟩:=aeq.mp hp;refine⟨i,by simpa using hi,?_⟩;unfold aeG;have cu:i<xs.size:=by simpa using hi
 rw[Zj cu];have:xs[i]=p:=by simpa using e
 rw[this];rfl
theorem DN(e:xs.toList.map (·.1)=ns)(h:0<xs.size):aeG xs (acC (λi j=>decide (aeG xs i > aeG xs j)) (xs.size-1))=jf ns:=by
 obtain⟨h1,h2⟩:=argBest_gt (aeG xs) (xs.size-1);have a7:ns≠[]:=by intro z;subst z;have q:=congrArg List.length e;rw[Yw,Z7,abh] at q;lia
 obtain⟨m1,m2⟩:=DJ a7;refine af6 (m2 _ (DL e (by lia)).1) ?_;obtain⟨i,hi,ei⟩:=DM e m1;rw[<- ei];exact h2 i (by lia)
theorem DO(e:xs.toList.map (·.1)=ns)(h:0<xs.size):aeG xs (acC (λi j=>decide (aeG xs i<aeG xs j)) (xs.size-1))=jV ns:=by
 obtain⟨h1,h2⟩:=argBest_lt (aeG xs) (xs.size-1);have a7:ns≠[]:=by intro z;subst z;have q:=congrArg List.length e;rw[Yw,Z7,abh] at q;lia
 obtain⟨m1,m2⟩:=DK a7;refine af6 ?_ (m2 _ (DL e (by lia)).1);obtain⟨i,hi,ei⟩:=DM e m1;rw[<- ei];exact h2 i (by lia)
def xH(R:V->Hp->Prop):List V->Hp->Prop
 | [x],H=>R x H
 | _,_=>False
theorem DP:∀ {vs:List V} {H:Hp},xH R vs H->∃ x,vs=[x]/\R x H
 | [x],_,h=>⟨x,rfl,h⟩
section
noncomputable def mG(f:List Int->Int):List Int->V->V
 | [],y=>y
 | n::ns,_=>.int (f (n::ns))
theorem Nw(h:ns≠[]):mG f ns y = .int (f ns):=by
 cases ns with
 | nil=>exact absurd rfl h
 | cons _ _=>rfl
def uv(K:Yu)(f:List Int->Int)(te td:TE):TE:=λσ H Q=>te σ H λx H1=>td σ H1 λy H2=>∃ a ns,x = .ref a/\ah K H2 a (ns.map V.int)/\Q (mG f ns y) H2
theorem DQ{X:Cx}{e d:ach}{te td:TE}{p pos kp:Pos}{nx:String}{f:List Int->Int}{op:CmpOp}{id:String}(nm:(toString nx++toString ".loop" : String)=id)(e1:acT table id=some (xE.1 nx op))(e2:af5 id=true)(k0:aeF nx=none)(k1:af5 nx=true)(k2:acT table nx=some (DF.1 nx))(k3:∀ a d:YB,adM nx ⟨[a],[("default",d)]⟩)(kb:Zn nx=some (.builtin nx))(kn:YG nx≠YG "__name__")(kd:(YG nx == YG "__debug__")=false)
 (kc:∀ (A:aaq) (xs:Array (Int × Tok)),∃ bt,CmpOf X.prog X.w A op (λi v=>(aax xs)[i]?=some v) bt/\∀ ns:List Int,xs.toList.map (·.1)=ns->0<xs.size->aeG xs (acC bt (xs.size-1))=f ns) (hc:X.calm=true) (hg:Gl X nx) (hm:X.mg nx=none) (he:PE X e te) (hd:PE X d td)
 (hs:Y2 [e] X.env=(false,eval e X.env)::Y2 [] X.env:=by rfl) (hq:aaC pos (Y2 [e] X.env)=(false,eval e X.env)::aaC pos (Y2 [] X.env):=by rfl) :
 PE X (.Call (.Name nx p) [e] [⟨some "default",d,kp⟩] pos) (uv X.K f te td):=by
 intro pins s σ H Q I h;refine ZU (dR I hg hm kb ?_ kn (hd:=kd));refine callWith_kw (aD ((ae he ag hs) pos pins s σ H (xH λx H1=>td σ H1 λy H2=>∃ (a:YN) (ns:List Int),x = .ref a/\ah X.K H2 a (ns.map V.int)/\Q (mG f ns y) H2) I h) λus s1 ⟨vs,H1,I1,r,q⟩=>?_) hq (by rw[hs];rfl)
 .obtain⟨x,rfl,q⟩:=DP q;obtain⟨u,rfl,ru⟩:=vals1 r;refine kws_cons (aD (hd pins s1 σ H1 _ I1 q) λw s2 ⟨y,H2,I2,ry,a,ns,ex,hS,q1⟩=>kws_nil ?_);subst ex;cases ru;obtain⟨ai,rv,hp,_⟩:=I2.list hS;obtain⟨xs,uo,DR⟩:=qv rv;obtain⟨o,n,ho,aX,_,hdt⟩:=hp;have hl:s2.heap.IsList a (aax xs):=⟨o,ho,aX,n,by rw[hdt,uo]⟩
  have len:xs.size=ns.length:=by rw[<- DR,Yw];simp
  show YT _ X.A (call (.builtin nx) [.ref a] [("default",w)]) _ _ s2;obtain⟨bt,Nx,Ny⟩:=kc X.A.in1 xs;refine Nu nm e1 e2 k0 k1 k2 k3 Nx (I2.ok.hd hc) hl (λhz h' tk hk=>⟨y,H2,I2.kept hk,ry,?_⟩) λhp v h' tk hv hk=>⟨.int (f ns),H2,I2.kept hk,?_,?_⟩
  .have z:ns=[]:=Z1.mp (by walk_at "o");rw[z] at q1;exact q1
  .obtain⟨t,rfl⟩:=adC hv;exact⟨t,by rw[Ny _ DR hp]⟩
  .rw[Nw (λz=>by subst z;rw[abh] at len;lia)] at q1;exact q1
theorem Nz(a d:YB):adM "max" ⟨[a],[("default",d)]⟩:=by unfold adM;kernel_rfl
theorem NA{X:Cx}{e d:ach}{te td:TE}{p pos kp:Pos}(hc:X.calm=true)(hg:Gl X "max")(hm:X.mg "max" = none)(he:PE X e te)(hd:PE X d td)
 (hs:Y2 [e] X.env=(false,eval e X.env)::Y2 [] X.env:=by rfl) (hq:aaC pos (Y2 [e] X.env)=(false,eval e X.env)::aaC pos (Y2 [] X.env):=by rfl) :
 PE X (.Call (.Name "max" p) [e] [⟨some "default",d,kp⟩] pos) (uv X.K jf te td) :=
 DQ (by decide) PySem.F.entry_max_loop PySem.F.plain_max_loop PySem.F.kind_max PySem.F.plain_max PySem.F.entry_max Nz CY (by decide) (by decide) (λ_ xs=>⟨_,CmpOf.ints_gt (aeG xs) (λ_ _=>adC),λ_ e h=>DN e h⟩) hc hg hm he hd hs hq
theorem NB(hc:X.calm=true):dN X (.builtin "max") (λxs H Q=>∃ a ns,xs=[.ref a]/\ah X.K H a (ns.map V.int)/\ns≠[]/\Q (.int (jf ns)) H):=by
 intro pins s σ H xs us Q I r h;obtain⟨a,ns,rfl,hS,a7,q⟩:=h;obtain⟨u,rfl,ru⟩:=vals1 r;cases ru;obtain⟨ai,rv,hp,_⟩:=I.list hS;obtain⟨xs,e1,e2⟩:=qv rv;obtain⟨o,n,ho,aX,_,hdt⟩:=hp;have hl:s.heap.IsList a (aax xs):=⟨o,ho,aX,n,by rw[hdt,e1]⟩
 have len:xs.size=ns.length:=by rw[<- e2,Yw];simp
 have kW:0<xs.size:=by rw[len];exact aeH.mpr a7
 refine max_intList (I.ok.hd hc) hl kW λv h' tk hv hk=>⟨.int (jf ns),H,I.kept hk,?_,q⟩
 obtain⟨t,rfl⟩:=adC hv;exact⟨t,by rw[DN e2 kW]⟩
theorem NC(a d:YB):adM "min" ⟨[a],[("default",d)]⟩:=by unfold adM;kernel_rfl
theorem ND{X:Cx}{e d:ach}{te td:TE}{p pos kp:Pos}(hc:X.calm=true)(hg:Gl X "min")(hm:X.mg "min" = none)(he:PE X e te)(hd:PE X d td)
 (hs:Y2 [e] X.env=(false,eval e X.env)::Y2 [] X.env:=by rfl) (hq:aaC pos (Y2 [e] X.env)=(false,eval e X.env)::aaC pos (Y2 [] X.env):=by rfl) :
 PE X (.Call (.Name "min" p) [e] [⟨some "default",d,kp⟩] pos) (uv X.K jV te td) :=
 DQ (by decide) abZ aaN afH afl afm NC ue (by decide) (by decide) (λ_ xs=>⟨_,CmpOf.ints_lt (aeG xs) (λ_ _=>adC),λ_ e h=>DO e h⟩) hc hg hm he hd hs hq
theorem NF(hc:X.calm=true):dN X (.builtin "min") (λxs H Q=>∃ a ns,xs=[.ref a]/\ah X.K H a (ns.map V.int)/\ns≠[]/\Q (.int (jV ns)) H):=by
 intro pins s σ H xs us Q I r h;obtain⟨a,ns,rfl,hS,a7,q⟩:=h;obtain⟨u,rfl,ru⟩:=vals1 r;cases ru;obtain⟨ai,rv,hp,_⟩:=I.list hS;obtain⟨xs,e1,e2⟩:=qv rv;obtain⟨o,n,ho,aX,_,hdt⟩:=hp;have hl:s.heap.IsList a (aax xs):=⟨o,ho,aX,n,by rw[hdt,e1]⟩
 have len:xs.size=ns.length:=by rw[<- e2,Yw];simp
 have kW:0<xs.size:=by rw[len];exact aeH.mpr a7
 refine min_intList (I.ok.hd hc) hl kW λv h' tk hv hk=>⟨.int (jV ns),H,I.kept hk,?_,q⟩
 obtain⟨t,rfl⟩:=adC hv;exact⟨t,by rw[DO e2 kW]⟩
end
section
theorem DS{ch:List YN}(I:Inv X pins σ H s)(k:∀ b o,b∉ch->s.heap.get? b=some o->h'.get? b=some o)(hf:∀ b∈ch,cV X pins H b){H':Hp}(up:∀ b u,H b=some u->H' b=some u):∀ b u,H b=some u->bw X.prog X.w H' h' b u:=by
 have kE:∀ b u,H b=some u->b∉ch:=λb u e z=>by rw[(hf b z).1] at e;cases e
 intro b u e;refine (I.ao b u e).fh (λc v hc q=>k c v ?_ q) (λc q=>up c _ q) λc xs q=>up c _ q;rcases hc with z|z
 .rw[z];exact kE b u e
 .exact kE c _ z
theorem DT{t':Nat}{ch:List YN}(I:Inv X pins σ H s)(k:∀ b o,b∉ch->s.heap.get? b=some o->h'.get? b=some o)(hf:∀ b∈ch,cV X pins H b):Inv X pins σ H { s with heap:=h',toks:=t' }:=by
 refine I.step (g':=s.gens) (d':=s.drawn) (ch:=ch) (λb hb=>?_) (λb o _ _ hc e _=>k b o hc e) (λb o _ _ hc e _=>⟨o.slots,k b o hc e⟩) (λ_ _ _ _ n=>n)
  (λb o hc e=>⟨o,k b o hc e⟩) (λ_ _ e=>e) (λ_ _ _ e=>e) (λb ps e=>⟨#[],by rw[e];simp⟩) (λm hm=>?_) (λb u e=>DS I k hf (λ_ _ q=>q) b u e) I.bare
 .obtain⟨_,d1,d2,d3,d4,d5⟩:=hf b hb;exact⟨d3,d1,d4,d5⟩
 .obtain⟨o,es,ep,ho,r⟩:=hm;exact⟨o,es,ep,k _ o (λz=>(hf _ z).2.1 rfl) ho,r⟩
theorem DU{t':Nat}{ch:List YN}{T:YN}{o:HO}(I:Inv X pins σ H s)(k:∀ b o,b∉ch->s.heap.get? b=some o->h'.get? b=some o)(hf:∀ b∈ch,cV X pins H b)(hT:s.heap.objs.size<=T)
 (new:bw X.prog X.w (upd H T o) h' T o):Inv X pins σ (upd H T o) { s with heap:=h',toks:=t' }:=by
 have hn:=I.ao.fresh hT;have neT:∀ b u,s.heap.get? b=some u->b≠T:=λb u e=>YS (YU (YA e) hT);have fz:∀ b u,H b=some u->b≠T:=λb u e=>hJ e hn;have up:∀ b u,H b=some u->upd H T o b=some u:=λb u e=>by rw[aC (fz b u e)];exact e
 refine I.step (g':=s.gens) (d':=s.drawn) (ch:=ch) (λb hb=>?_) (λb o _ _ hc e _=>k b o hc e) (λb o _ _ hc e _=>⟨o.slots,k b o hc e⟩) (λb u _ e n=>by rw[aC (neT b u e)];exact n)
  (λb o hc e=>⟨o,k b o hc e⟩) (λb xs e=>up b _ e) (λb _ _ e=>up b _ e) (λb ps e=>⟨#[],by rw[up b _ e];simp⟩) (λm hm=>?_) (λb u e=>?_) I.bare
 .obtain⟨_,d1,d2,d3,d4,d5⟩:=hf b hb;exact⟨d3,d1,d4,d5⟩
 .obtain⟨o,es,ep,ho,r⟩:=hm;exact⟨o,es,ep,k _ o (λz=>(hf _ z).2.1 rfl) ho,r⟩
 .by_cases hb:b=T
  .subst hb;rw[az] at e;cases e;exact new
  .rw[aC hb] at e;exact DS I k hf up b u e
end
noncomputable def uw(K:Yu)(a:YN)(n:Nat):It :=
 ⟨λi H=>∃ xs x,ah K H a xs/\xs.length=n/\xs.reverse[i]?=some x,λi H x H'=>H'=H/\∀ xs,ah K H a xs->xs.length=n->xs.reverse[i]?=some x,λi _=>i=n⟩
theorem NG{P:Zy}{w:aaa}{K:Yu}{tg:ach}(a it:YN)(n:Nat):Turn P w K tg (uw K a n) [it] it (λi h=>i<=n/\h.IsRevIter it a ((n:Int)-1-(i:Nat))) where
 mem:=by simp
 obj:=λi h st b hb=>by
  have e:b=it:=by simpa using hb
  subst e;obtain⟨_,o,e,c,d⟩:=st;exact⟨o,e,λv z=>by rw[d] at z;cases z⟩
 keep:=λi h h' st k=>⟨st.1,st.2.at λo e=>k it (by simp) o e⟩
 item:=by
  intro X hP hw hK hc i pins s σ H E I hf st hg;subst hP hw hK;obtain⟨xs,x,hq,hn,hx⟩:=hg;obtain⟨ai,rv,p,hz⟩:=I.list hq;have hl:=rv.length;have hi:i<n:=by have:=(YC.mp hx).1;rw[aam] at this;lia
  have cM:xs[n-1-i]?=some x:=by rw[aaR (by lia),hn] at hx;exact hx
  obtain⟨u,hu,ru⟩:=rv.get cM;obtain⟨f0,f1,f2,f3,f4,f5⟩:=hf it (by simp);have b0:=st.2;rw[show (n:Int)-1-(i:Nat)=((n-1-i:Nat):Int) by lia] at b0;refine wpAny_pyNext_rev_item b0 p.isList (x:=u) (by simpa using hu) λh' b0 sb=>?_;have I1:Inv X pins σ H { s with heap:=h' }:=I.turned (t':=s.toks) (λb o hb e=>(sb.2 b hb).trans e) f0 f1 f3 f4 f5;obtain⟨o,e,c,d⟩:=id b0;rw[show ((n-1-i:Nat):Int)-1=(n:Int)-1-((i+1:Nat):Int) by lia] at b0;exact⟨u,rfl,mn (s:={ s with heap:=h' }) e c d (by decide) ⟨x,H,I1,ru,⟨rfl,λys hy _=>by rw[I.p8 hy hq];exact hx⟩,⟨by lia,b0⟩,λb hb=>(hf b hb).1⟩⟩
 done:=by
  intro X hP hw hK hc i pins s σ H E I hf st hg;subst hP hw hK;have xI:i=n:=hg;subst xI;obtain⟨f0,f1,f2,f3,f4,f5⟩:=hf it (by simp);have b0:=st.2;rw[show (i:Int)-1-(i:Nat) = -1 by lia] at b0;exact wpAny_pyNext_rev_end (I.ok.hd hc) b0 λh' eb=>⟨rfl,I.turned (t':=s.toks) (λb o hb e=>eb b o hb e) f0 f1 f3 f4 f5⟩
 self:=λ_ _ _ _ _ st h=>aer st.2 h
def xJ(K:Yu)(ta:TA):TI:=λσ H R=>ta σ H λvs H1=>∃ a xs,vs=[.ref a]/\ah K H1 a xs/\R (uw K a xs.length) H1
theorem NH(hg:Gl X "reversed")(hm:X.mg "reversed" = none)(ha:PA X [e] ta)(hs:Y2 [e] X.env=[(false,eval e X.env)]:=by rfl):PI X tg (.Call (.Name "reversed" p) [e] [] pos) (xJ X.K ta):=by
 intro pins s σ H R I h;refine agW (dR I hg hm Mj (Za (aD (ha pos pins s σ H _ I h) λus s1 zq=>?_) hs rfl));obtain⟨vs,H1,I1,r1,q1⟩:=zq;obtain⟨a,xs,rfl,hq,q⟩:=q1;obtain⟨u,rfl,ru⟩:=vals1 r1;cases ru;obtain⟨ai,rv,p,hz⟩:=I1.list hq;refine call_reversed_list p.isList ?_;have hl:=rv.length;refine aer (i:=(ai.toArray.size:Int)-1) (l:=a) ⟨_,YH _ rfl,rfl,rfl⟩ ?_;refine⟨s1.heap.objs.size,[s1.heap.objs.size],_,_,H1,rfl,I1.kept (t':=s1.toks) λb o e=>Yy _ e,NG a _ xs.length,⟨Zc _,_,YH _ rfl,rfl,?_⟩,λb hb=>?_,q⟩
 .rw[YI,<- hl];simp;rfl
 .have e:b=s1.heap.objs.size:=by simpa using hb
  subst e;exact I1.fq (YD _) (I1.ao.fresh (YD _))
noncomputable def ux(K:Yu)(a:YN):It :=
 ⟨λi H=>∃ xs x,ah K H a xs/\xs[i]?=some x,λi H v H'=>∃ (p:YN) (x:V),v = .ref p/\H p=none/\H'=upd H p (.tup [.int i,x])/\∀ xs,ah K H a xs->xs[i]?=some x,λi H=>∃ xs,ah K H a xs/\xs.length<=i⟩
theorem xK:2<=Y0:=by decide
theorem NI{P:Zy}{w:aaa}{K:Yu}{es:List ach}{k:Nat}{tp:Pos}(a e it:YN)(DV:e≠it):Turn P w K (.Tuple es k tp) (ux K a) [e,it] e (λi h=>(∃ old,IsEnum h e it (i:Nat) old)/\h.IsListIter it a i) where
 mem:=by simp
 obj:=λi h st b hb=>by
  obtain⟨⟨old,he⟩,o,ho,c,d⟩:=st;have bO:b=e∨b=it:=by simpa using hb
  rcases bO with rfl|rfl
  .exact⟨_,he,λv z=>by
    have z':adw _=adg v:=z;cases z'⟩
  .exact⟨o,ho,λv z=>by rw[d] at z;cases z⟩
 keep:=λi h h' st kk=>by obtain⟨⟨old,he⟩,hi⟩:=st;exact⟨⟨old,kk e (by simp) _ he⟩,hi.at λo e=>kk it (by simp) o e⟩
 item:=by
  intro X hP hw hK hc i pins s σ H E I hf st hg;subst hP hw hK;obtain⟨xs,x,hq,hx⟩:=hg;obtain⟨⟨old,he⟩,hit⟩:=st;obtain⟨ai,rv,p,hz⟩:=I.list hq;obtain⟨u,hu,ru⟩:=rv.get hx;refine adU he hit p.isList (x:=u) (by simpa using hu) DV λh1 ho NJ hT hsz hk=>?_;refine⟨_,rfl,wpAny_letOwnedTupleGo_enum ho λh2 DW b5=>?_⟩;have xM:Heap.SameBut e h1 h2:=b5;have neT:s.heap.objs.size≠e:=ZM (YA he);have up:∀ b o,b∉[e,it]->s.heap.get? b=some o->h2.get? b=some o:=λb o hb q=>by
   have bO:b≠e/\b≠it:=by simpa using hb
   exact xM.extBut b o bO.1 (hk b o bO.1 bO.2 q)
  have hn:H s.heap.objs.size=none:=I.ao.fresh (YD _);refine⟨.ref s.heap.objs.size,upd H s.heap.objs.size (.tup [.int i,x]),DU (s:=s) (h':=h2) (t':=s.toks+1) I up hf (YD _) ⟨xK,[.int i s.toks,u],.cons ⟨_,rfl⟩ (.cons ru .nil),?_⟩,rfl,⟨_,x,rfl,hn,rfl,λys hy=>by rw[I.p8 hy hq];exact hx⟩,⟨⟨u,?_⟩,?_⟩,λb hb=>?_⟩
  .have:=xM.extBut _ _ neT hT;exact⟨_,this,rfl,_,rfl⟩
  .have:((i:Int)+1)=((i+1:Nat):Int):=by lia
   rw[<- this];exact DW
  .exact NJ.at λo q=>xM.extBut _ _ (Zt DV) q
  .rw[aC]
   .exact (hf b hb).1
   .have bO:b=e∨b=it:=by simpa using hb
    rcases bO with rfl|rfl
    .exact Zt neT
    .obtain⟨o,q,_⟩:=hit;exact YS (YA q)
 done:=by
  intro X hP hw hK hc i pins s σ H E I hf st hg;subst hP hw hK;obtain⟨xs,hq,hx⟩:=hg;obtain⟨⟨old,he⟩,hit⟩:=st;obtain⟨ai,rv,p,hz⟩:=I.list hq;have hl:=rv.length;refine aeb (I.ok.hd hc) he hit p.isList (by simp;lia) λh' eb=>⟨rfl,DT (t':=s.toks) I (λb o hb q=>?_) hf⟩
  have bO:b≠e/\b≠it:=by simpa using hb
  exact eb b o bO.2 q
 self:=λ_ i s Q E st h=>by obtain⟨⟨old,he⟩,_⟩:=st;exact ado he h
def xN(K:Yu)(ta:TA):TI:=λσ H R=>ta σ H λvs H1=>∃ a,vs=[.ref a]/\(∃ xs,ah K H1 a xs)/\R (ux K a) H1
theorem xO(hg:Gl X "enumerate")(hm:X.mg "enumerate" = none)(ha:PA X [e] ta)(hs:Y2 [e] X.env=[(false,eval e X.env)]:=by rfl):PI X (.Tuple es k tp) (.Call (.Name "enumerate" p) [e] [] pos) (xN X.K ta):=by
 intro pins s σ H R I h;refine agW (dR I hg hm C2 (Za (aD (ha pos pins s σ H _ I h) λus s1 zq=>?_) hs rfl));obtain⟨vs,H1,I1,r1,q1⟩:=zq;obtain⟨a,rfl,⟨xs,hq⟩,q⟩:=q1;obtain⟨u,rfl,ru⟩:=vals1 r1;cases ru;obtain⟨ai,rv,p,hz⟩:=I1.list hq;refine aeI p.isList λh' he hit hsz hk=>?_;refine ado he ?_;have I2:Inv X pins σ H1 { s1 with heap:=h' }:=I1.kept (t':=s1.toks) hk;refine⟨s1.heap.objs.size+1,[s1.heap.objs.size+1,s1.heap.objs.size],_,_,H1,rfl,I2,NI a _ _ (by walk_at "o"),⟨⟨.none,he⟩,hit⟩,λb hb=>?_,q⟩;have bO:b=s1.heap.objs.size+1∨b=s1.heap.objs.size:=by simpa using hb
 rcases bO with rfl|rfl
 .exact I1.fq (acA _) (I1.ao.fresh (acA _))
 .exact I1.fq (YD _) (I1.ao.fresh (YD _))
noncomputable def uy(K:Yu)(a b:YN):It :=
 ⟨λi H=>∃ xs ys x y,ah K H a xs/\ah K H b ys/\xs[i]?=some x/\ys[i]?=some y,λi H v H'=>∃ (p:YN) (x y:V),v = .ref p/\H p=none/\H'=upd H p (.tup [x,y])/\(∀ xs,ah K H a xs->xs[i]?=some x)/\∀ ys,ah K H b ys->ys[i]?=some y,
  λi H=>∃ xs ys,ah K H a xs/\ah K H b ys/\(xs.length<=i∨ys.length<=i)⟩
theorem NK{P:Zy}{w:aaa}{K:Yu}{es:List ach}{k:Nat}{tp:Pos}(a b z TI TO i1 i2:YN)(D:ZipApart z TI TO i1 i2 a b):Turn P w K (.Tuple es k tp) (uy K a b) [z,TI,TO,i1,i2] z
 (λi h=>IsZip h z TI TO .none/\IsPair h TI (.ref i1) (.ref i2)/\(∃ a b,IsPair h TO a b)/\h.IsListIter i1 a i/\h.IsListIter i2 b i) where
 mem:=by simp
 obj:=λi h st c hc=>by
  obtain⟨hz,ix,⟨ta,tb,jg⟩,⟨o1,h1,c1,d1⟩,⟨o2,h2,c2,d2⟩⟩:=st;have jE:c=z∨c=TI∨c=TO∨c=i1∨c=i2:=by simpa using hc
  rcases jE with rfl|rfl|rfl|rfl|rfl
  .exact⟨_,hz,λv q=>by
    have q':adw _=adg v:=q;cases q'⟩
  .exact⟨_,ix,λv q=>by
    have q':Data.seq _ _=adg v:=q;cases q'⟩
  .exact⟨_,jg,λv q=>by
    have q':Data.seq _ _=adg v:=q;cases q'⟩
  .exact⟨o1,h1,λv q=>by rw[d1] at q;cases q⟩
  .exact⟨o2,h2,λv q=>by rw[d2] at q;cases q⟩
 keep:=λi h h' st kk=>by obtain⟨hz,ix,⟨ta,tb,jg⟩,h1,h2⟩:=st;exact⟨kk z (by simp) _ hz,kk TI (by simp) _ ix,⟨ta,tb,kk TO (by simp) _ jg⟩,h1.at λo e=>kk i1 (by simp) o e,h2.at λo e=>kk i2 (by simp) o e⟩
 item:=by
  intro X hP hw hK hc i pins s σ H E I hf st hg;subst hP hw hK;obtain⟨xs,ys,x,y,hqx,hqy,hx,hy⟩:=hg;obtain⟨hz,ix,⟨ta,tb,jg⟩,h1,h2⟩:=st;obtain⟨ai,rv,p1,_⟩:=I.list hqx;obtain⟨jts,uz,p2,_⟩:=I.list hqy;obtain⟨u,hu,ru⟩:=rv.get hx;obtain⟨v,hv,xP⟩:=uz.get hy;refine wpAny_pyNext_zip_item D hz ix jg h1 h2 p1.isList p2.isList (x:=u) (y:=v) (by simpa using hu) (by simpa using hv) λh' z1 t1 l1 l2 pT hsz hk=>?_;refine⟨_,rfl,wpAny_letOwnedTupleGo_zip z1 λh3 z3 NL=>?_⟩;have ox:Heap.SameBut z h' h3:=NL;have neT:s.heap.objs.size≠z:=ZM (YA hz);have up:∀ b o,b∉[z,TI,TO,i1,i2]->s.heap.get? b=some o->h3.get? b=some o:=λb o hb q=>by
   have bO:b≠z/\b≠TI/\b≠TO/\b≠i1/\b≠i2:=by simpa using hb
   exact ox.extBut b o bO.1 (hk b o bO.1 bO.2.2.1 bO.2.2.2.1 bO.2.2.2.2 q)
  have hn:H s.heap.objs.size=none:=I.ao.fresh (YD _);refine⟨.ref s.heap.objs.size,upd H s.heap.objs.size (.tup [x,y]),DU (s:=s) (h':=h3) (t':=s.toks) I up hf (YD _) ⟨xK,[u,v],.cons ru (.cons xP .nil),?_⟩,rfl,⟨_,x,y,rfl,hn,rfl,λzs xQ=>by rw[I.p8 xQ hqx];exact hx,λzs xQ=>by rw[I.p8 xQ hqy];exact hy⟩,
   ⟨z3,ox.extBut _ _ D.TIz (hk _ _ D.TIz D.TITO D.TIi1 D.TIi2 ix),⟨_,_,ox.extBut _ _ D.TOz t1⟩,l1.at λo q=>ox.extBut _ _ D.i1z q,l2.at λo q=>ox.extBut _ _ D.i2z q⟩,λb hb=>?_⟩
  .have:=ox.extBut _ _ neT pT;exact⟨_,this,rfl,_,rfl⟩
  .rw[aC]
   .exact (hf b hb).1
   .have bO:b=z∨b=TI∨b=TO∨b=i1∨b=i2:=by simpa using hb
    rcases bO with rfl|rfl|rfl|rfl|rfl
    .exact Zt neT
    .exact YS (YA ix)
    .exact YS (YA jg)
    .obtain⟨o,q,_⟩:=h1;exact YS (YA q)
    .obtain⟨o,q,_⟩:=h2;exact YS (YA q)
 done:=by
  intro X hP hw hK hc i pins s σ H E I hf st hg;subst hP hw hK;obtain⟨xs,ys,hqx,hqy,hx⟩:=hg;obtain⟨hz,ix,⟨ta,tb,jg⟩,h1,h2⟩:=st;obtain⟨ai,rv,p1,_⟩:=I.list hqx;obtain⟨jts,uz,p2,_⟩:=I.list hqy;have l1:=rv.length;have l2:=uz.length;refine wpAny_pyNext_zip_end (I.ok.hd hc) D hz ix jg h1 h2 p1.isList p2.isList (hx.imp (λq=>by simp;lia) λq=>by simp;lia) λh' hk=>⟨rfl,DT (t':=s.toks) I (λb o hb q=>?_) hf⟩
  have bO:b≠z/\b≠TI/\b≠TO/\b≠i1/\b≠i2:=by simpa using hb
  exact hk b o bO.1 bO.2.2.1 bO.2.2.2.1 bO.2.2.2.2 q
 self:=λ_ i s Q E st h=>afI st.1 h
def xR(K:Yu)(ta:TA):TI:=λσ H R=>ta σ H λvs H1=>∃ a b,vs=[.ref a,.ref b]/\(∃ xs,ah K H1 a xs)/\(∃ ys,ah K H1 b ys)/\R (uy K a b) H1
theorem NM(hg:Gl X "zip")(hm:X.mg "zip" = none)(ha:PA X [e,f] ta)(hs:Y2 [e,f] X.env=(false,eval e X.env)::Y2 [f] X.env:=by rfl)(b5:Y2 [f] X.env=[(false,eval f X.env)]:=by rfl):PI X (.Tuple es k tp) (.Call (.Name "zip" p) [e,f] [] pos) (xR X.K ta):=by
 intro pins s σ H R I h;refine agW (dR I hg hm Mi (Za (aD (ha pos pins s σ H _ I h) λus s1 ⟨vs,H1,I1,r1,q1⟩=>?_) hs (by rw[b5];rfl)));obtain⟨a,b,rfl,⟨xs,hqx⟩,⟨ys,hqy⟩,q⟩:=q1;obtain⟨u,v,rfl,ru,NN⟩:=vals2 r1;cases ru;cases NN;obtain⟨ai,rv,p1,_⟩:=I1.list hqx;obtain⟨jts,uz,p2,_⟩:=I1.list hqy;have a1:a<s1.heap.objs.size:=by obtain⟨_,e,_⟩:=p1.isList;exact YA e
 have a2:b<s1.heap.objs.size:=by obtain⟨_,e,_⟩:=p2.isList;exact YA e
 refine call_zip_2 p1.isList p2.isList λh' hz ix jg h1 h2 hsz hk=>?_;refine afI hz ?_;have I2:Inv X pins σ H1 { s1 with heap:=h' }:=I1.kept (t':=s1.toks) hk;refine⟨s1.heap.objs.size+4,[s1.heap.objs.size+4,s1.heap.objs.size+2,s1.heap.objs.size+3,s1.heap.objs.size,s1.heap.objs.size+1],_,_,H1,rfl,I2,NK a b _ _ _ _ _ (zipApart_new a1 a2),⟨hz,ix,⟨_,_,jg⟩,h1,h2⟩,λc hc=>?_,q⟩;have jE:s1.heap.objs.size<=c:=by simp only[YV,abE,or_false] at hc;walk_at "o"
 exact I1.fq jE (I1.ao.fresh jE)
section
theorem DX(hc:X.calm=true):dN X (.builtin "sum") (λxs H Q=>∃ (a:YN) (ns:List Int),xs=[.ref a]/\ah X.K H a (ns.map V.int)/\Q (.int ns.sum) H):=by
 intro pins s σ H xs us Q I r h;obtain⟨a,ns,rfl,hS,q⟩:=h;obtain⟨u,rfl,ru⟩:=vals1 r;cases ru;obtain⟨ai,rv,hp,_⟩:=I.list hS;obtain⟨xs,e1,e2⟩:=qv rv;obtain⟨o,n,ho,aX,_,hdt⟩:=hp;have hl:s.heap.IsList a (aax xs):=⟨o,ho,aX,n,by rw[hdt,e1]⟩
 refine sum_intListG (I.ok.hd hc) hl λh' tk t' hk=>⟨.int ns.sum,H,I.kept hk,⟨t',?_⟩,q⟩
 rw[preSum_eq,ab0 (by simp),e2]
theorem xS:∀ {bs:List Bool} {ai:List YB},Vals (bs.map V.bl) ai->ai=bs.map aaj
 | [],ai,r=>by cases r;rfl
 | b::bs,ai,r=>by
  cases r with
  | cons r1 r2 =>
   cases r1;rw[xS r2];rfl
theorem DY(hc:X.calm=true):dN X (.builtin "all") (λxs H Q=>∃ (a:YN) (bs:List Bool),xs=[.ref a]/\ah X.K H a (bs.map V.bl)/\Q (.bl (bs.all id)) H):=by
 intro pins s σ H xs us Q I r h;obtain⟨a,bs,rfl,hS,q⟩:=h;obtain⟨u,rfl,ru⟩:=vals1 r;cases ru;obtain⟨ai,rv,hp,_⟩:=I.list hS;have e:=xS rv;subst e;have hl:=hp.isList;have aU:a<s.heap.objs.size:=by obtain⟨_,e,_⟩:=hl;exact YA e
 refine call_all_walk (ab4 hl ?_);refine⟨s.heap.objs.size,[s.heap.objs.size,a],[s.heap.objs.size],(bs.map aaj).toArray.size,_,_,λi=>(bs[i]?).getD true,rfl,Walks.list (A:=X.A.in1) (I.ok.hd hc) _ a (YS aU) (bs.map aaj).toArray,⟨⟨_,YH _ rfl,rfl,rfl⟩,hl.push _⟩,λi v s' Q' E' hP hQ=>?_,λh' tk hk=>?_⟩
 .have jW:(bs[i]?).map aaj=some v:=by simpa using hP
  cases e:bs[i]? with
  | none=>rw[e] at jW;cases jW
  | some b =>
   rw[e] at jW;cases jW;simp only[e,abF] at hQ;exact ZH hQ
 .have e:((Y1 (bs.map aaj).toArray.size).all λi=>(bs[i]?).getD true)=bs.all id:=by rw[YI,Yw];exact PyProof.Rows.LSm.range_all bs
  rw[e];exact⟨.bl (bs.all id),H,I.kept (λb o q=>hk b o (λz=>by
   have:b=s.heap.objs.size:=by simpa using z
   rw[this] at q;exact Z6 _ (YA q)) (Yy _ q)),rfl,q⟩
theorem xT(hc:X.calm=true):dN X (.builtin "any") (λxs H Q=>∃ (a:YN) (bs:List Bool),xs=[.ref a]/\ah X.K H a (bs.map V.bl)/\Q (.bl (bs.any id)) H):=by
 intro pins s σ H xs us Q I r h;obtain⟨a,bs,rfl,hS,q⟩:=h;obtain⟨u,rfl,ru⟩:=vals1 r;cases ru;obtain⟨ai,rv,hp,_⟩:=I.list hS;have e:=xS rv;subst e;have hl:=hp.isList;have aU:a<s.heap.objs.size:=by obtain⟨_,e,_⟩:=hl;exact YA e
 refine call_any_walk (ab4 hl ?_);refine⟨s.heap.objs.size,[s.heap.objs.size,a],[s.heap.objs.size],(bs.map aaj).toArray.size,_,_,λi=>(bs[i]?).getD false,rfl,Walks.list (A:=X.A.in1) (I.ok.hd hc) _ a (YS aU) (bs.map aaj).toArray,⟨⟨_,YH _ rfl,rfl,rfl⟩,hl.push _⟩,λi v s' Q' E' hP hQ=>?_,λh' tk hk=>?_⟩
 .have jW:(bs[i]?).map aaj=some v:=by simpa using hP
  cases e:bs[i]? with
  | none=>rw[e] at jW;cases jW
  | some b =>
   rw[e] at jW;cases jW;simp only[e,abF] at hQ;exact ZH hQ
 .have e:((Y1 (bs.map aaj).toArray.size).any λi=>(bs[i]?).getD false)=bs.any id:=by rw[YI,Yw];exact PyProof.Rows.LSm.range_any bs
  rw[e];exact⟨.bl (bs.any id),H,I.kept (λb o q=>hk b o (λz=>by
   have:b=s.heap.objs.size:=by simpa using z
   rw[this] at q;exact Z6 _ (YA q)) (Yy _ q)),rfl,q⟩
end
section
variable{K:Yu}{g:TG}{tb:TS}{D:Ends}{σ:L2.St}{H:Hp}{a b:YN}{xs ys:List V}
theorem NO{ta:TA}:ic (xJ K ta) g tb D σ H=ta σ H (λvs H1=>∃ a xs,vs=[.ref a]/\ah K H1 a xs/\FJ (uw K a xs.length) g tb D σ H1):=rfl
theorem NP{ta:TA}:ic (xN K ta) g tb D σ H=ta σ H (λvs H1=>∃ a,vs=[.ref a]/\(∃ xs,ah K H1 a xs)/\FJ (ux K a) g tb D σ H1):=rfl
theorem NQ{ta:TA}:ic (xR K ta) g tb D σ H=ta σ H (λvs H1=>∃ a b,vs=[.ref a,.ref b]/\(∃ xs,ah K H1 a xs)/\(∃ ys,ah K H1 b ys)/\FJ (uy K a b) g tb D σ H1):=rfl
theorem xU(Pv:Nat->L2.St->Hp->Prop)(h0:Pv 0 σ H)(hl:∀ i σ H,i<=xs.length->Pv i σ H->ah K H a xs)(hs:∀ i x σ H p,xs[i]?=some x->Pv i σ H->H p=none->g (.ref p) σ (upd H p (.tup [.int i,x])) λσ2 H2=>tb { D with nx:=Pv (i+1),ct:=Pv (i+1),bk:=D.nx } σ2 H2)(hd:∀ σ H,Pv xs.length σ H->D.nx σ H):FJ (ux K a) g tb D σ H:=by
 refine⟨λi m σ H=>m=xs.length-i/\i<=xs.length/\Pv i σ H,⟨_,rfl,Zc _,h0⟩,?_⟩;rintro i m σ H ⟨rfl,hi,p⟩;have q:=hl i σ H hi p;by_cases aU:i<xs.length
 .refine .inr ⟨⟨xs,xs[i],q,by simp[aU]⟩,Pv (i+1),λσ' H' p'=>⟨xs.length-(i+1),by lia,rfl,aU,p'⟩,λv H' y=>?_⟩;obtain⟨w,x,rfl,hw,rfl,y⟩:=y;exact hs i x σ _ w (y xs q) p hw
 .have e:i=xs.length:=by lia
  subst e;exact .inl ⟨⟨xs,q,YD _⟩,hd σ H p⟩
theorem NR(Pv:Nat->L2.St->Hp->Prop)(h0:Pv 0 σ H)(hl:∀ i σ H,Pv i σ H->ah K H a xs/\ah K H b ys)(hs:∀ i x y σ H p,xs[i]?=some x->ys[i]?=some y->Pv i σ H->H p=none->g (.ref p) σ (upd H p (.tup [x,y])) λσ2 H2=>tb { D with nx:=Pv (i+1),ct:=Pv (i+1),bk:=D.nx } σ2 H2)(hd:∀ σ H,Pv (min xs.length ys.length) σ H->D.nx σ H):FJ (uy K a b) g tb D σ H:=by
 refine⟨λi m σ H=>m=min xs.length ys.length-i/\i<=min xs.length ys.length/\Pv i σ H,⟨_,rfl,Zc _,h0⟩,?_⟩;rintro i m σ H ⟨rfl,hi,p⟩;have q:=hl i σ H p;by_cases aU:i<min xs.length ys.length
 .have h1:i<xs.length:=by lia
  have h2:i<ys.length:=by lia
  refine .inr ⟨⟨xs,ys,xs[i],ys[i],q.1,q.2,by simp[h1],by simp[h2]⟩,Pv (i+1),λσ' H' p'=>⟨min xs.length ys.length-(i+1),by lia,rfl,aU,p'⟩,λv H' y=>?_⟩;obtain⟨w,x,y',rfl,hw,rfl,e1,e2⟩:=y;exact hs i x y' σ _ w (e1 xs q.1) (e2 ys q.2) p hw
 .have e:i=min xs.length ys.length:=by lia
  refine .inl ⟨⟨xs,ys,q.1,q.2,by lia⟩,hd σ H (e ▸ p)⟩
end
theorem oy{K:Yu}{i j:Nat}{p:YN}{x y:V}{σ:L2.St}{H:Hp}{Q:L2.St->Hp->Prop}(h:aj K H p [x,y])(q:Q ((σ.set i (some x)).set j (some y)) H):mj K 2 (dM (cJ i) (dM (cJ j) kH)) (.ref p) σ H Q :=
 ⟨p,[x,y],rfl,h,rfl,x,[y],rfl,y,[],rfl,rfl,q⟩
section
end
mutual
inductive Dat(K:Yu)(H:Hp):V->aeY->Prop where
 | non:Dat K H .non .none
 | bl (b:Bool):Dat K H (.bl b) (.bool b)
 | int (i:Int):Dat K H (.int i) (.int i)
 | str (x:Str):Dat K H (.str x) (.str x)
 | tup {a:YN} {xs:List V} {ds:List aeY} (h:aj K H a xs) (r:oz K H xs ds):Dat K H (.ref a) (.tuple ds)
 | lst {a:YN} {xs:List V} {ds:List aeY} (h:ah K H a xs) (r:oz K H xs ds):Dat K H (.ref a) (.list ds)
inductive oz(K:Yu)(H:Hp):List V->List aeY->Prop where
 | nil:oz K H [] []
 | cons {x:V} {d:aeY} {xs:List V} {ds:List aeY} (h:Dat K H x d) (r:oz K H xs ds):oz K H (x::xs) (d::ds)
end
section
theorem Dat.reads(I:Inv X pins σ H s)(d:aeY)(h:Dat X.K H v d):RelV v u->∃ as,Reads s.heap u d as:=by
 refine Dat.rec (motive_1:=λv d _=>∀ u,RelV v u->∃ as,Reads s.heap u d as) (motive_2:=λvs ds _=>∀ us,Vals vs us->∃ as,ReadsAll s.heap us ds as) ?_ ?_ ?_ ?_ ?_ ?_ ?_ ?_ h u
 .intro u r;cases r;exact⟨_,.none⟩
 .intro b u r;cases r;exact⟨_,.bool b⟩
 .rintro i u ⟨t,rfl⟩;exact⟨_,.int i t⟩
 .rintro x u ⟨t,rfl⟩;exact⟨_,.str x t⟩
 .intro a xs ds h q ih u r;cases r;obtain⟨ai,rv,⟨o,ho,hc,n,hd⟩,_⟩:=I.tuple h;obtain⟨as,ra⟩:=ih ai rv;exact⟨_,.tuple ho hc hd (by simpa using ra)⟩
 .intro a xs ds h q ih u r;cases r;obtain⟨ai,rv,⟨o,n,ho,hc,_,hd⟩,_⟩:=I.list h;obtain⟨as,ra⟩:=ih ai rv;exact⟨_,.list ho hc hd (by simpa using ra)⟩
 .intro us r;cases r;exact⟨_,.nil⟩
 .intro x d xs ds h q xV xW us r;cases r with
  | cons r1 r2 =>
   obtain⟨as,ra⟩:=xV _ r1;obtain⟨bs,rb⟩:=xW _ r2;exact⟨_,.cons ra rb⟩
def xX(K:Yu)(neg:Bool):R2:=λx y H Q=>∃ d e,Dat K H x d/\Dat K H y e/\d.canLay0=true/\e.canLay0=true/\d.depth<=60/\Q (.bl (if neg=true then !aen d e else aen d e)) H
theorem NS(hu:X.A.units+64<adi):ba X (Z5 .Eq) (xX X.K false):=by intro pins s σ H x y v u Q I rx ry h;obtain⟨d,e,dx,dy,c1,c2,dd,q⟩:=h;obtain⟨as,ra⟩:=Dat.reads I d dx rx;obtain⟨bs,rb⟩:=Dat.reads I e dy ry;exact SeqAt.compareEq_reads ra rb c1 c2 (by lia) ⟨.bl _,H,I,rfl,q⟩
theorem NT(hu:X.A.units+64<adi):ba X (Z5 .NotEq) (xX X.K true):=by intro pins s σ H x y v u Q I rx ry h;obtain⟨d,e,dx,dy,c1,c2,dd,q⟩:=h;obtain⟨as,ra⟩:=Dat.reads I d dx rx;obtain⟨bs,rb⟩:=Dat.reads I e dy ry;exact SeqAt.compareNe_reads ra rb c1 c2 (by lia) ⟨.bl _,H,I,rfl,q⟩
end
noncomputable def uA(lo st:Int)(n:Nat):It:=⟨λi _=>i<n,λi H x H'=>H'=H/\x = .int (lo+(i:Int) * st),λi _=>n<=i⟩
theorem NU{P:Zy}{w:aaa}{K:Yu}{tg:ach}(it:YN)(lo st:Int)(n:Nat):Turn P w K tg (uA lo st n) [it] it (λi h=>adv h it (lo+(i:Nat) * st) ((n:Int)-(i:Nat)) st) where
 mem:=by simp
 obj:=λi h q b hb=>by
  have e:b=it:=by simpa using hb
  subst e;exact⟨_,q,λv z=>by
   have z':adw _=adg v:=z;cases z'⟩
 keep:=λi h h' q k=>k it (by simp) _ q
 item:=by intro X hP hw hK hc i pins s σ H E I hf q hg;subst hP hw hK;obtain⟨f0,f1,f2,f3,f4,f5⟩:=hf it (by simp);have W:=Walks.range (prog:=X.prog) (w:=X.w) (I.ok.hd hc) it lo st n;refine W.item i s _ _ hg q λv h' tk hv q' kk=>?_;obtain⟨t,rfl⟩:=hv;have I1:Inv X pins σ H { s with heap:=h',toks:=tk }:=I.turned (λb o hb e=>kk b o (by simpa using hb) e) f0 f1 f3 f4 f5;exact⟨_,rfl,mn (s:={ s with heap:=h',toks:=tk }) (n := "range_iterator") q' rfl rfl (by decide) ⟨.int (lo+(i:Int) * st),H,I1,⟨t,rfl⟩,⟨rfl,rfl⟩,q',λb hb=>(hf b hb).1⟩⟩
 done:=by
  intro X hP hw hK hc i pins s σ H E I hf q hg;subst hP hw hK;obtain⟨f0,f1,f2,f3,f4,f5⟩:=hf it (by simp);exact adP (I.ok.hd hc) q (by have:n<=i:=hg;lia) λh' eb=>⟨rfl,I.turned (t':=s.toks) (λb o hb e=>eb b o hb e) f0 f1 f3 f4 f5⟩
 self:=λ_ _ _ _ _ q h=>adQ q h
noncomputable def k7(lo hi st:Int):Nat:=(Zw lo hi st).toNat
def xY(ta:TA):TI:=λσ H R=>ta σ H λvs H1=>∃ i j c:Int,vs=[.int i,.int j,.int c]/\(-1000000<=i/\i<=1000000/\-1000000<=j/\j<=1000000/\-1000000<=c/\c<=1000000/\c≠0)/\R (uA i c (k7 i j c)) H1
theorem DZ(i j c:Int)(h:c≠0):0<=Zw i j c:=by
 unfold Zw;split
 .rename_i hc;split
  .have:=af7 (show 0<=j-i-1 by lia) (show 0<=c by lia);lia
  .lia
 .split
  .have:=af7 (show 0<=i-j-1 by lia) (show 0 <= -c by lia);lia
  .lia
theorem size_le(i j c:Int)(h : -1000000<=i/\i<=1000000/\-1000000<=j/\j<=1000000/\c≠0):Zw i j c<=2000000:=by
 unfold Zw;split
 .split
  .have:=afJ (c) (show 0<=j-i-1 by lia);lia
  .lia
 .split
  .have:=afJ (-c) (show 0<=i-j-1 by lia);lia
  .lia
theorem NV(h : -1000000<=i/\i<=1000000/\-1000000<=j/\j<=1000000/\-1000000<=c/\c<=1000000/\c≠0):Builtin.Range.small i j c=true:=by have h1:=DZ i j c h.2.2.2.2.2.2;have h2:=size_le i j c ⟨h.1,h.2.1,h.2.2.1,h.2.2.2.1,h.2.2.2.2.2.2⟩;unfold Builtin.Range.small;generalize Zw i j c=n at h1 h2 ⊢;simp only[af8,aak,abT,decide_eq_true_eq,beq_iff_eq];refine⟨by lia,.inr ?_⟩;split<;>simp only[aak,decide_eq_true_eq]<;>lia
theorem NW(hg:Gl X "range")(hm:X.mg "range" = none)(ha:PA X [a,b,c] ta)(hs:Y2 [a,b,c] X.env=(false,eval a X.env)::Y2 [b,c] X.env:=by rfl)(b5:Y2 [b,c] X.env=[(false,eval b X.env),(false,eval c X.env)]:=by rfl) :
 PI X tg (.Call (.Name "range" p) [a,b,c] [] pos) (xY ta):=by
 intro pins s σ H R I h;refine agW (dR I hg hm afb (Za (aD (ha pos pins s σ H _ I h) λus s1 ⟨vs,H1,I1,r1,q1⟩=>?_) (by rw[hs]) (by rw[b5];rfl)));obtain⟨i,j,k,e,hb,q⟩:=q1;subst e;cases r1 with
 | cons r rr =>
  cases rr with
  | cons r' rr =>
   cases rr with
   | cons NX rr =>
    cases rr;obtain⟨t,rfl⟩:=r;obtain⟨t',rfl⟩:=r';obtain⟨D0,rfl⟩:=NX;have hk:k≠0:=hb.2.2.2.2.2.2;refine call_range_3 hk ?_ (.inl (PyProof.noPylong_small (by lia)));refine acR (IsRange.new ..) (NV hb) ?_;have I2:Inv X pins σ H1 { s1 with heap:=s1.heap.push { cls:=.type "range",data:=.fields #[.int i t,.int j t',.int k D0] },toks:=s1.toks }:=I1.kept λb o e=>Yy _ e;refine⟨_,[_],_,_,H1,rfl,I2.kept (t':=s1.toks) λb o e=>Yy _ e,NU _ i k (k7 i j k),?_,λb hb=>?_,q⟩
    .have e1:i+((0:Nat):Int) * k=i:=by simp
     have e2:((k7 i j k:Nat):Int)-((0:Nat):Int)=Zw i j k:=by have:=DZ i j k hk;unfold k7;lia
     show adv _ _ (i+((0:Nat):Int) * k) (((k7 i j k:Nat):Int)-((0:Nat):Int)) k;rw[e1,e2];exact YH _ rfl
    .have e:b=(s1.heap.push { cls:=.type "range",data:=.fields #[.int i t,.int j t',.int k D0] }).objs.size:=by simpa using hb
     subst e;exact I2.fq (YD _) (I2.ao.fresh (YD _))
section
variable{g:TG}{tb:TS}{D:Ends}{σ:L2.St}{H:Hp}{lo st:Int}{n:Nat}
theorem NY:ic (wG ta) g tb D σ H=ta σ H (λvs H1=>∃ i j:Int,vs=[.int i,.int j]/\(-(2 ^ 62)<=i/\i<2 ^ 62/\-(2 ^ 62)<=j/\j<2 ^ 62)/\FJ (eU i (j-i).toNat) g tb D σ H1):=rfl
theorem NZ:ic (xY ta) g tb D σ H=ta σ H (λvs H1=>∃ i j c:Int,vs=[.int i,.int j,.int c]/\(-1000000<=i/\i<=1000000/\-1000000<=j/\j<=1000000/\-1000000<=c/\c<=1000000/\c≠0)/\FJ (uA i c (k7 i j c)) g tb D σ H1):=rfl
theorem N0(Pv:Nat->L2.St->Hp->Prop)(h0:Pv 0 σ H)(hs:∀ i σ H,i<n->Pv i σ H->g (.int (lo+(i:Int) * st)) σ H λσ2 H2=>tb { D with nx:=Pv (i+1),ct:=Pv (i+1),bk:=D.nx } σ2 H2)(hd:∀ σ H,Pv n σ H->D.nx σ H):FJ (uA lo st n) g tb D σ H:=by
 refine⟨λi m σ H=>m=n-i/\i<=n/\Pv i σ H,⟨n,by simp,Zc _,h0⟩,?_⟩;rintro i m σ H ⟨rfl,hi,p⟩;by_cases aU:i<n
 .refine .inr ⟨aU,Pv (i+1),λσ' H' p'=>⟨n-(i+1),by lia,rfl,aU,p'⟩,λx H' y=>?_⟩;obtain⟨e,y⟩:=y;subst e y;exact hs i σ _ aU p
 .have e:i=n:=by lia
  subst e;exact .inl ⟨YD _,hd σ H p⟩
end
theorem N1(xs:List V)(a:Nat):mx xs (some (a:Int)) none=xs.drop a:=by
 unfold mx;rw[HT.Lp,HT.Lo];by_cases h:a<=xs.length
 .rw[Nat.min_eq_left h,ab0 (by rw[adK];lia)]
 .rw[Nat.min_eq_right (by lia),adV (YD _),adV (by lia)];simp
end Gz
namespace Gz
noncomputable def D1(a b:Int):Int:=((Nat.gcd a.natAbs b.natAbs:Nat):Int)
noncomputable def sg(t b:Int):Int:=if b<0 then -D1 t b else D1 t b
noncomputable def rt(t b:Int):Int:=t.fdiv (sg t b)
noncomputable def rb(t b:Int):Int:=b.fdiv (sg t b)
end Gz
namespace Gz
open PySem PySem.Spec PyProof.Rows L2
def ay{α:Type}(R:V->α->Prop):List V->List α->Prop
 | [],[]=>True
 | x::xs,a::as=>R x a/\ay R xs as
 | _,_=>False
section
variable{α:Type}{R R':V->α->Prop}
theorem ay.len:∀ {xs:List V} {as:List α},ay R xs as->xs.length=as.length
 | [],[],_=>rfl
 | _::_,_::_,h=>by simp[ay.len h.2]
 | [],_::_,h=>h.elim
 | _::_,[],h=>h.elim
theorem ay.imp(f:∀ x a,R x a->R' x a):∀ {xs:List V} {as:List α},ay R xs as->ay R' xs as
 | [],[],_=>trivial
 | _::_,_::_,h=>⟨f _ _ h.1,ay.imp f h.2⟩
 | [],_::_,h=>h.elim
 | _::_,[],h=>h.elim
theorem ay.get:∀ {xs:List V} {as:List α},ay R xs as->∀ {i:Nat} {x:V},xs[i]?=some x->∃ a,as[i]?=some a/\R x a
 | [],[],_,i,x,e=>by simp at e
 | _::_,a::_,h,0,x,e=>by simp at e;subst e;exact⟨a,by simp,h.1⟩
 | _::_,_::_,h,i+1,x,e=>by simp only[aa7] at e ⊢;exact ay.get h.2 e
 | [],_::_,h,_,_,_=>h.elim
 | _::_,[],h,_,_,_=>h.elim
theorem ay.at:∀ {xs:List V} {as:List α},ay R xs as->∀ {i:Nat} {a:α},as[i]?=some a->∃ x,xs[i]?=some x/\R x a
 | [],[],_,i,x,e=>by simp at e
 | x::_,_::_,h,0,a,e=>by simp at e;subst e;exact⟨x,by simp,h.1⟩
 | _::_,_::_,h,i+1,a,e=>by simp only[aa7] at e ⊢;exact ay.at h.2 e
 | [],_::_,h,_,_,_=>h.elim
 | _::_,[],h,_,_,_=>h.elim
theorem ay.app:∀ {xs ys:List V} {as bs:List α},ay R xs as->ay R ys bs->ay R (xs++ys) (as++bs)
 | [],_,[],_,_,h=>h
 | _::_,_,_::_,_,h,h'=>⟨h.1,ay.app h.2 h'⟩
 | [],_,_::_,_,h,_=>h.elim
 | _::_,_,[],_,h,_=>h.elim
theorem ay.snoc(h:ay R xs as)(h':R x a):ay R (xs++[x]) (as++[a]):=h.app ⟨h',trivial⟩
theorem ay.ints:∀ (ns:List Int),ay (λx n=>x=V.int n) (ns.map V.int) ns
 | []=>trivial
 | n::ns=>⟨rfl,ay.ints ns⟩
theorem ay.fP{lo:Int}(n:Nat):ay (λx (k:Nat)=>x=V.int (lo+k)) ((Y1 n).map λk=>V.int (lo+(k:Nat))) (Y1 n):=by
 suffices ∀ l:List Nat,ay (λx (k:Nat)=>x=V.int (lo+k)) (l.map λk=>V.int (lo+(k:Nat))) l from this _
 intro l
 induction l with
 | nil=>trivial
 | cons a l ih=>exact⟨rfl,ih⟩
end
theorem k8(bT:Ok H):∀ {xs:List V} {as:List α} {ys:List V},ay R xs as ->
 (∀ x a,a∈as->R x a->∀ Q,Q (p a) H->tt (some x::ρ) H Q)->(∀ x a,a∈as->p a=true->R x a->∀ Q:VK,Q (f a) H->te (some x::ρ) H Q) ->
 Q' (ys++(as.filter p).map f) H->dW Ok ρ tt te xs ys H Q'
 | [],[],ys,_,_,_,q=>⟨bT,by simpa using q⟩
 | x::xs,a::as,ys,h,ht,he,q=>by
  refine⟨bT,ht x a (.head _) h.1 _ ?_⟩;by_cases hb:p a=true
  .rw[if_pos hb];refine he x a (.head _) hb h.1 _ (k8 bT h.2 (λx a ha=>ht x a (.tail _ ha)) (λx a ha=>he x a (.tail _ ha)) ?_);rw[Zs,if_pos hb] at q;simpa using q
  .rw[if_neg hb];refine k8 bT h.2 (λx a ha=>ht x a (.tail _ ha)) (λx a ha=>he x a (.tail _ ha)) ?_;rw[Zs,if_neg hb] at q;exact q
 | [],_::_,_,h,_,_,_=>h.elim
 | _::_,[],_,h,_,_,_=>h.elim
theorem filter_tt(l:List α):l.filter (λ_=>true)=l:=Z9.mpr λ_ _=>rfl
abbrev P2:=Int × Int
def dh(H:Hp)(v:V)(p:P2):Prop:=∃ a,v = .ref a/\H a=some (.tup [.int p.1,.int p.2])
theorem dh.same(h:dh H v p)(s:ak H H'):dh H' v p:=let ⟨a,e,q⟩:=h;⟨a,e,s _ _ q⟩
theorem dh.put(h:dh H v p)(hr:H r=some (.lst ys)):dh (upd H r (.lst zs)) v p:=by obtain⟨a,e,q⟩:=h;refine⟨a,e,?_⟩;rw[aC (tE q hr (λz=>nomatch z))];exact q
abbrev eI(H:Hp):List V->List P2->Prop:=ay (dh H)
theorem eI.same(h:eI H xs ps)(s:ak H H'):eI H' xs ps:=ay.imp (λ_ _ r=>r.same s) h
noncomputable def aside(s e p:P2):Int:=(p.2-s.2) * (e.1-s.1)-(p.1-s.1) * (e.2-s.2)
noncomputable def aB(ps:List P2)(i:Nat):P2:=ps.getD i (0,0)
def N2(ks:List P2)(p q:Int)(i:Nat):Prop:=i+1<ks.length/\(aB ks i).1 * q<=p/\p<=(aB ks (i+1)).1 * q
def hit(ks:List P2)(p q:Int):Prop:=∃ i,N2 ks p q i
def SameBut(x:YN)(H H':Hp):Prop:=∀ b o,b≠x->H b=some o->H' b=some o
theorem mH(hi:i<ps.length):aB ps i∈ps:=by unfold aB;rw[Yv,Yx hi];exact adN hi
theorem fB{α β:Type}{R:Hp->V->α->Prop}{R':Hp->V->β->Prop}{Ok:Hp->Prop}{ρ:L2.St}{tt:TT}{te:TE}{f:α->β}{Q':List V->Hp->Prop}(mono:∀ H H' x a,ak H H'->R H x a->R H' x a)(oA:∀ H H' x a,ak H H'->R' H x a->R' H' x a) :
 ∀ {xs:List V} {as:List α} {ys:List V} {bs:List β} {H:Hp},ay (R H) xs as->ay (R' H) ys bs->(∀ H',ak H H'->Ok H')->(∀ x a,a∈as->∀ H',ak H H'->R H' x a->∀ Q,Q true H'->tt (some x::ρ) H' Q) ->
 (∀ x a,a∈as->∀ H',ak H H'->R H' x a->∀ Q:VK,(∀ kZ y,ak H' kZ->R' kZ y (f a)->Q y kZ)->te (some x::ρ) H' Q) ->
 (∀ H' zs,ak H H'->ay (R' H') zs (bs++as.map f)->Q' zs H')->dW Ok ρ tt te xs ys H Q'
 | [],[],ys,bs,H,_,hy,bT,_,_,q=>⟨bT H (ak.refl H),q H ys (ak.refl H) (by simpa using hy)⟩
 | x::xs,a::as,ys,bs,H,h,hy,bT,ht,he,q=>by
  refine⟨bT H (ak.refl H),ht x a (.head _) H (ak.refl H) h.1 _ ?_⟩;rw[if_pos rfl];refine he x a (.head _) H (ak.refl H) h.1 _ λH2 y s2 r2=>?_;refine fB mono oA (bs:=bs++[f a]) (h.2.imp λx a r=>mono _ _ _ _ s2 r) ((hy.imp λx a r=>oA _ _ _ _ s2 r).snoc r2) (λH' s'=>bT H' (s2.trans s')) (λx a ha H' s'=>ht x a (.tail _ ha) H' (s2.trans s')) (λx a ha H' s'=>he x a (.tail _ ha) H' (s2.trans s')) λH' zs s' hz=>?_;refine q H' zs (s2.trans s') ?_;rw[YW]
  rwa [abo] at hz
 | [],_::_,_,_,_,h,_,_,_,_,_=>h.elim
 | _::_,[],_,_,_,h,_,_,_,_,_=>h.elim
noncomputable def sw(ks:List P2):List P2:=ks.map λp=>(p.2,p.1)
end Gz
namespace Gz
open PySem PySem.W PyProof.Rows
def dF{α:Type}(lt:Nat->Nat->Bool)(n:Nat):KasT α->(α->Prop)->Prop
 | .ret a,P=>P a
 | .ask i j k,P=>i<n/\j<n/\dF lt n (k (lt i j)) P
section
theorem oB:∀ (t:KasT α),dF lt n t (λa=>dF lt n (f a) P)->dF lt n (t.bind f) P
 | .ret _,h=>h
 | .ask _ _ k,h=>⟨h.1,h.2.1,oB (k _) h.2.2⟩
theorem D2{α:Type}{P P':α->Prop}(h:∀ a,P a->P' a):∀ (t:KasT α),dF lt n t P->dF lt n t P'
 | .ret _,q=>h _ q
 | .ask _ _ k,q=>⟨q.1,q.2.1,D2 h (k _) q.2.2⟩
theorem xZ{α:Type}{cmp:Nat->Nat->(Bool->YK->Prop)->YK->Prop}{Ok:YK->Prop}(hc:∀ i j C s,i<n->j<n->Ok s->(∀ s',Ok s'->C (lt i j) s')->cmp i j C s){P:α->Prop}{Q:α->YK->Prop}(hQ:∀ a s,Ok s->P a->Q a s) :
 ∀ (t:KasT α) (s:YK),Ok s->dF lt n t P->t.kasWp cmp Q s
 | .ret a,s,o,h=>hQ a s o h
 | .ask i j k,s,o,h=>hc i j _ s h.1 h.2.1 o λs' o'=>xZ hc hQ (k (lt i j)) s' o' h.2.2
structure Ord(lt:Nat->Nat->Bool):Prop where
 asym:∀ {a b},lt a b=true->lt b a=false
 tr:∀ {a b c},lt b a=false->lt c b=false->lt c a=false
theorem Ord.rfl'(O:Ord lt)(a:Nat):lt a a=false:=by
 cases h:lt a a with
 | false=>rfl
 | true=>rw[O.asym h] at h;cases h
def dG(lt:Nat->Nat->Bool)(p:Array Nat)(k:Nat):Prop:=∀ i j,i<=j->j<k->lt (p.getD j 0) (p.getD i 0)=false
def eY(lt:Nat->Nat->Bool)(p:Array Nat)(k:Nat):Prop:=∀ i j,i<=j->j<k->lt (p.getD i 0) (p.getD j 0)=false
def bY(n:Nat)(p:Array Nat):Prop:=p.toList.Perm (Y1 n)
theorem bY.size(h:bY n p):p.size=n:=by have:=h.length_eq;simpa using this
theorem bY.below(h:bY n p)(hi:i<n):p.getD i 0<n:=by
 have hs:=h.size;have cu:i<p.size:=by lia
 have e:p.getD i 0=p[i]:=by simp[agz,cu]
 rw[e];have m:p[i]∈p.toList:=by simp
 simpa using h.mem_iff.mp m
theorem bY.of(h:bY n p)(hq:q.Perm p):bY n q:=(Array.perm_iff_toList_perm.mp hq).trans h
theorem dG.one(O:Ord lt):dG lt p 1:=λi j gv hj=>by
 have:i=j:=by lia
 subst this;exact O.rfl' _
theorem eY.one(O:Ord lt):eY lt p 1:=λi j gv hj=>by
 have:i=j:=by lia
 subst this;exact O.rfl' _
theorem dG.succ(O:Ord lt)(h:dG lt p k)(hk:1<=k)(hn:lt (p.getD k 0) (p.getD (k-1) 0)=false):dG lt p (k+1):=λi j gv hj=>by
 by_cases e:j=k
 .subst e;by_cases ei:i=j
  .subst ei;exact O.rfl' _
  .exact O.tr (h i (j-1) (by lia) (by lia)) hn
 .exact h i j gv (by lia)
theorem eY.succ(O:Ord lt)(h:eY lt p k)(hk:1<=k)(hn:lt (p.getD (k-1) 0) (p.getD k 0)=false):eY lt p (k+1):=λi j gv hj=>by
 by_cases e:j=k
 .subst e;by_cases ei:i=j
  .subst ei;exact O.rfl' _
  .exact O.tr hn (h i (j-1) (by lia) (by lia))
 .exact h i j gv (by lia)
theorem k9(hj:j<=p.size)(k:Nat):(kas_rev p i j).getD k 0=if i<=k/\k<j then p.getD (i+j-1-k) 0 else p.getD k 0:=by simp only[acE];unfold kas_rev;rw[getElem?_mirror_all hj];split<;>rfl
theorem D3(hk:k<p.size)(hl:l<=k)(i:Nat):(bubble p k (k-l)).getD i 0=if i=l then p.getD k 0 else if l<i/\i<=k then p.getD (i-1) 0 else p.getD i 0:=by
 simp only[acE];rw[getElem?_bubble hk _ (by lia)];have e:k-(k-l)=l:=by lia
 rw[e];split
 .rfl
 .split<;>rfl
theorem D4(O:Ord lt)(hp:bY n p):∀ (f a:Nat),1<=a->a+f<=n->dG lt p a->(∀ m,a<=m->m<=a+f->dG lt p m->P m)->dF lt n (kas_asc p f a) P
 | 0,a,h1,h2,hs,q=>q a (YD _) (by lia) hs
 | f+1,a,h1,h2,hs,q=>by
  refine⟨hp.below (by lia),hp.below (by lia),?_⟩;cases c:lt (p.getD a 0) (p.getD (a-1) 0) with
  | true =>
   simp only[↓reduceIte];exact q a (YD _) (by lia) hs
  | false =>
   simp only[Y5,↓reduceIte];exact D4 O hp f (a+1) (by lia) (by lia) (hs.succ O h1 c) λm m1 m2=>q m (by lia) (by lia)
theorem eY.rev(h:eY lt p k)(hk:k<=p.size)(hi:i<=k)(he:∀ j,i<=j->j<k->lt (p.getD (k-1) 0) (p.getD j 0)=false)(O:Ord lt):eY lt (kas_rev p i k) k:=λa b dU hb=>by
 rw[k9 hk,k9 hk];have eqv:∀ x y,i<=x->x<k->i<=y->y<k->lt (p.getD x 0) (p.getD y 0)=false:=λx y x1 x2 y1 y2=>O.tr (he y y1 y2) (h x (k-1) (by lia) (by lia));split
 .split
  .exact eqv _ _ (by lia) (by lia) (by lia) (by lia)
  .exfalso;lia
 .split
  .exact h _ _ (by lia) (by lia)
  .exact h _ _ dU hb
theorem uB(O:Ord lt):∀ (f:Nat) (p:Array Nat) (k q:Nat),bY n p->1<=k->k+f<=n->q+1<=k->eY lt p k->(∀ j,k-(q+1)<=j->j<k->lt (p.getD (k-1) 0) (p.getD j 0)=false) ->
 (∀ p' k' q',bY n p'->k<=k'->k'<=k+f->q' + 1<=k'->eY lt p' k'->(∀ j,k' - (q' + 1)<=j->j<k'->lt (p'.getD (k' - 1) 0) (p'.getD j 0)=false)->P (p',k',q'))->dF lt n (kas_desc f p k q) P
 | 0,p,k,q,hp,h1,h2,h3,hd,he,fin=>fin p k q hp (YD _) (by lia) h3 hd he
 | f+1,p,k,q,hp,h1,h2,h3,hd,he,fin=>by
  have hs:=hp.size;have one:∀ (p':Array Nat),∀ j,(k+1)-(0+1)<=j->j<k+1->lt (p'.getD (k+1-1) 0) (p'.getD j 0)=false:=λp' j j1 j2=>by
   have:j=k:=by lia
   subst this;exact O.rfl' _
  refine⟨hp.below (by lia),hp.below (by lia),?_⟩;cases c:lt (p.getD k 0) (p.getD (k-1) 0) with
  | true =>
   simp only[↓reduceIte];have c':=O.asym c;by_cases hq:q > 0
   .rw[if_pos hq];have dP:bY n (kas_rev p (k-(q+1)) k):=hp.of (aeJ _ _ _ _);have hV:eY lt (kas_rev p (k-(q+1)) k) k:=hd.rev (by lia) (by lia) he O;refine uB O f _ (k+1) 0 dP (by lia) (by lia) (by lia) (hV.succ O h1 ?_) (one _) λp2 k2 q2 a1 a2 a3 a4 a5 a6=>fin p2 k2 q2 a1 (by lia) (by lia) a4 a5 a6;rw[k9 (by lia),k9 (by lia),if_pos (by lia),if_neg (by lia)];have e1:k-(q+1)+k-1-(k-1)=k-(q+1):=by lia
    rw[e1];exact O.tr c' (hd _ (k-1) (by lia) (by lia))
   .rw[if_neg hq];exact uB O f p (k+1) 0 hp (by lia) (by lia) (by lia) (hd.succ O h1 c') (one _) λp2 k2 q2 a1 a2 a3 a4 a5 a6=>fin p2 k2 q2 a1 (by lia) (by lia) a4 a5 a6
  | false =>
   simp only[Y5,↓reduceIte];refine⟨hp.below (by lia),hp.below (by lia),?_⟩;cases d:lt (p.getD (k-1) 0) (p.getD k 0) with
   | true =>
    simp only[↓reduceIte];exact fin p k q hp (YD _) (by lia) h3 hd he
   | false =>
    simp only[Y5,↓reduceIte];refine uB O f p (k+1) (q+1) hp (by lia) (by lia) (by lia) (hd.succ O h1 d) (λj j1 j2=>?_) λp2 k2 q2 a1 a2 a3 a4 a5 a6=>fin p2 k2 q2 a1 (by lia) (by lia) a4 a5 a6;have ek:k+1-1=k:=by lia
    rw[ek];by_cases ej:j=k
    .subst ej;exact O.rfl' _
    .exact O.tr (he j (by lia) (by lia)) c
theorem eY.whole(h:eY lt p k)(hk:k<=p.size):dG lt (kas_rev p 0 k) k:=λa b dU hb=>by rw[k9 hk,k9 hk,if_pos (by lia),if_pos (by lia)];exact h _ _ (by lia) (by lia)
theorem D5(O:Ord lt)(hp:bY n p)(h1:1<=k)(h2:k<=n)(hd:eY lt p k)(fin:∀ m p',bY n p'->1<=m->m<=n->dG lt p' m->P (m,p')):dF lt n (kas_tail3 k n p) P:=by have dP:bY n (kas_rev p 0 k):=hp.of (aeJ _ _ _ _);have hs:=hp.size;unfold kas_tail3;refine oB _ (D4 O dP (n-k) k h1 (by lia) (hd.whole (by lia)) λm m1 m2 ms=>?_);exact fin m _ dP (by lia) (by lia) ms
theorem D6(O:Ord lt)(hp:bY n p)(h1:1<=k)(h2:k+1<=n)(hd:eY lt p (k+1))(fin:∀ m p',bY n p'->1<=m->m<=n->dG lt p' m->P (m,p')):dF lt n (kas_descPart k n p) P:=by
 unfold kas_descPart;refine oB _ (uB O (n-(k+1)) p (k+1) 0 hp (by lia) (by lia) (by lia) hd (λj j1 j2=>?_) λp2 k2 q2 a1 a2 a3 a4 a5 a6=>?_)
 .have:j=k:=by lia
  subst this;exact O.rfl' _
 .have hs:=a1.size;dsimp only;by_cases hq:q2 > 0
  .rw[if_pos hq];exact D5 O (a1.of (aeJ _ _ _ _)) (by lia) (by lia) (a5.rev (by lia) (by lia) a6 O) fin
  .rw[if_neg hq];exact D5 O a1 (by lia) (by lia) a5 fin
theorem N3(O:Ord lt)(hp:bY n p)(hn:1<=n)(fin:∀ m p',bY n p'->1<=m->m<=n->dG lt p' m->P (m,p')):dF lt n (kas_count n p) P:=by
 have hs:=hp.size;unfold kas_count;have key:dF lt n (kas_asc p (n-1) 1) (λm=>1<=m/\m<=n/\dG lt p m/\(m<n->lt (p.getD m 0) (p.getD (m-1) 0)=true)):=by
  have gen:∀ (f a:Nat),1<=a->a+f=n->dG lt p a->dF lt n (kas_asc p f a) (λm=>1<=m/\m<=n/\dG lt p m/\(m<n->lt (p.getD m 0) (p.getD (m-1) 0)=true)):=by
   intro f
   induction f with
   | zero=>intro a h1 h2 hs;exact⟨h1,by lia,hs,λz=>absurd z (by lia)⟩
   | succ f ih =>
    intro a h1 h2 hs;refine⟨hp.below (by lia),hp.below (by lia),?_⟩;cases c:lt (p.getD a 0) (p.getD (a-1) 0) with
    | true =>
     simp only[↓reduceIte];exact⟨h1,by lia,hs,λ_=>c⟩
    | false =>
     simp only[Y5,↓reduceIte];exact ih (a+1) (by lia) (by lia) (hs.succ O h1 c)
  exact gen (n-1) 1 (YD _) (by lia) (dG.one O)
 refine oB _ (D2 (λm hm=>?_) _ key);obtain⟨m1,m2,ms,mc⟩:=hm;by_cases e:(m == n)=true
 .rw[if_pos e];exact fin m p hp m1 m2 ms
 .rw[if_neg e];have N4:m<n:=by
   have:m≠n:=by simpa using e
   lia
  have mc:=mc N4;by_cases h2:m > 1
  .rw[if_pos h2];refine⟨hp.below (by lia),hp.below (by lia),?_⟩;cases c:lt (p.getD 0 0) (p.getD (m-1) 0) with
   | true =>
    simp only[↓reduceIte];exact fin m p hp m1 m2 ms
   | false =>
    simp only[Y5,↓reduceIte];have eqv:∀ x y,x<m->y<m->lt (p.getD x 0) (p.getD y 0)=false:=λx y hx hy =>
     O.tr (ms y (m-1) (by lia) (by lia)) (O.tr c (ms 0 x (by lia) hx))
    have dP:bY n (kas_rev p 0 m):=hp.of (aeJ _ _ _ _);refine D6 O dP m1 (by lia) (λi j gv hj=>?_) fin;rw[k9 (by lia),k9 (by lia)];by_cases ej:j=m
    .subst ej;rw[if_neg (show ¬ (0<=j/\j<j) by lia)];split
     .exact O.tr (O.asym mc) (eqv _ _ (by lia) (by lia))
     .have:i=j:=by lia
      subst this;exact O.rfl' _
    .rw[if_pos (by lia),if_pos (by lia)];exact eqv _ _ (by lia) (by lia)
  .rw[if_neg h2];have e1:m=1:=by lia
   subst e1;exact D6 O hp (YD _) (by lia) ((eY.one O).succ O (YD _) (O.asym mc)) fin
theorem x3(O:Ord lt)(hp:bY n p)(hk:k<n)(hs:dG lt p k)(fin:∀ m,m<=k->(∀ i,i<m->lt (p.getD k 0) (p.getD i 0)=false)->(∀ i,m<=i->i<k->lt (p.getD i 0) (p.getD k 0)=false)->P m) :
 ∀ (f l r:Nat),r-l<=f->l<=r->r<=k->(∀ i,i<l->lt (p.getD k 0) (p.getD i 0)=false)->(∀ i,r<=i->i<k->lt (p.getD i 0) (p.getD k 0)=false)->dF lt n (kas_place p k f l r) P
 | 0,l,r,h1,h2,h3,a,b=>by
  have:l=r:=by lia
  subst this;exact fin l h3 a b
 | f+1,l,r,h1,h2,h3,a,b=>by
  unfold kas_place;by_cases hlr:l ≥ r
  .rw[if_pos hlr];have:l=r:=by lia
   subst this;exact fin l h3 a b
  .rw[if_neg hlr];refine⟨hp.below hk,hp.below (by lia),?_⟩;cases c:lt (p.getD k 0) (p.getD ((l+r) / 2) 0) with
   | true =>
    simp only[↓reduceIte];refine x3 O hp hk hs fin f l ((l+r) / 2) (by lia) (by lia) (by lia) a λi i1 i2=>?_;exact O.tr (O.asym c) (hs _ _ i1 i2)
   | false =>
    simp only[Y5,↓reduceIte];refine x3 O hp hk hs fin f ((l+r) / 2+1) r (by lia) (by lia) h3 (λi i1=>?_) b;exact O.tr (hs i ((l+r) / 2) (by lia) (by lia)) c
theorem D7(O:Ord lt)(fin:∀ p,bY n p->dG lt p n->P p):∀ (f:Nat) (p:Array Nat) (k:Nat),k+f=n->bY n p->dG lt p k->dF lt n (kas_bin f p k) P
 | 0,p,k,h,hp,hs=>fin p hp (by rw[<- h];exact hs)
 | f+1,p,k,h,hp,hs=>by
  have sz:=hp.size;unfold kas_bin;refine oB _ (x3 O hp (by lia) hs (λm m1 ma mb=>?_) k 0 k (by lia) (by lia) (YD _) (λ_ z=>absurd z (by lia)) λ_ z1 z2=>absurd z2 (by lia));refine D7 O fin f _ (k+1) (by lia) (hp.of (bubble_perm _ _ _)) λi j gv hj=>?_;rw[D3 (by lia) m1,D3 (by lia) m1];by_cases ei:i=m
  .rw[if_pos ei];by_cases ej:j=m
   .rw[if_pos ej];exact O.rfl' _
   .rw[if_neg ej,if_pos (by lia)];exact mb _ (by lia) (by lia)
  .rw[if_neg ei];by_cases ej:j=m
   .rw[if_pos ej,if_neg (by lia)];exact ma _ (by lia)
   .rw[if_neg ej];split
    .split
     .exact hs _ _ (by lia) (by lia)
     .exact hs _ _ (by lia) (by lia)
    .split
     .exfalso;lia
     .exact hs _ _ (by lia) (by lia)
theorem x4(O:Ord lt)(hn:1<=n):dF lt n (kas_sort n) (λp=>bY n p/\dG lt p n):=by
 unfold kas_sort;have h0:bY n (ZT (Y1 n)):=by unfold bY;simp
 refine oB _ (N3 O h0 hn λm p hp m1 m2 ms=>?_);dsimp only;by_cases h:m<n
 .rw[if_pos h];have e:max m 1=m:=by lia
  rw[e];exact D7 O (λp hp hs=>⟨hp,hs⟩) (n-m) p m (by lia) hp ms
 .rw[if_neg h];have e:m=n:=by lia
  subst e;exact⟨hp,ms⟩
noncomputable def uC{α:Type}(lt:Nat->Nat->Bool):KasT α->α
 | .ret a=>a
 | .ask i j k=>uC lt (k (lt i j))
theorem D8:∀ (t:KasT α),dF lt n t P->P (uC lt t)
 | .ret _,h=>h
 | .ask i j k,h=>D8 (k (lt i j)) h.2.2
theorem x5:∀ (t:KasT α),dF lt n t P->dF lt n t (λa=>a=uC lt t)
 | .ret _,_=>rfl
 | .ask i j k,h=>⟨h.1,h.2.1,x5 (k (lt i j)) h.2.2⟩
noncomputable def bU(lt:Nat->Nat->Bool)(n:Nat):Array Nat:=if n<2 then ZT (Y1 n) else uC lt (kas_sort n)
theorem mI(O:Ord lt):bY n (bU lt n)/\dG lt (bU lt n) n:=by
 unfold bU;split
 .rename_i h;refine⟨by unfold bY;simp,λi j gv hj=>?_⟩;have:i=j:=by lia
  subst this;exact O.rfl' _
 .rename_i h;exact D8 _ (x4 O (by lia))
end
end Gz
namespace Gz
open PySem PySem.Spec PyProof.Rows L2
local macro_rules | `(tactic| walk_at "o") => `(tactic| ((try simp only [PySem.Addr] at *); lia))
theorem Inv.N5(I:Inv X pins σ H s)(f:cV X pins H l)(N6:X.s₀.heap.objs.size<=l)(e:s.heap.get? l=some { cls:=.type "list",data:=.seq ai.toArray n })(r:Vals ys ai)(hz:ys.length<=Y0):Inv X pins σ (upd H l (.lst ys)) s:=by
 obtain⟨c0,c1,c2,c3,c4,c5⟩:=f;have fz:∀ b u,H b=some u->b≠l:=λb u q z=>by rw[z,c0] at q;cases q
 have N7:∀ b o,X.s₀.heap.get? b=some o->b≠l:=λb o q=>YS (YU (YA q) N6);refine⟨I.ok,I.os,I.bare,⟨I.base.keep,I.base.slot,λb o q n hx=>?_,I.base.there,λb xs q=>?_,λb o u q=>?_,λb ps q=>?_⟩,I.loc,I.cell,?_,λx c q=>?_,λp hp=>?_,λa o q=>?_,I.len⟩
 .rw[aC (N7 b o q)];exact I.base.free b o q n hx
 .have z:=I.base.dA b xs q;rw[aC (fz b _ z)];exact z
 .have z:=I.base.dJ b o u q;rw[aC (fz b _ z)];exact z
 .obtain⟨more,z⟩:=I.base.eh b ps q;exact⟨more,by rw[aC (fz b _ z)];exact z⟩
 .rw[aC (Zt c1)];exact I.free
 .rw[aC (c4 x c q)];exact I.el x c q
 .obtain⟨a1,a2,a3⟩:=I.pin p hp;exact⟨a1,by rw[aC (c5 p hp)];exact a2,a3⟩
 .by_cases ha:a=l
  .subst ha;rw[az] at q;cases q;exact⟨hz,ai,n,r,e⟩
  .rw[aC ha] at q;exact (I.ao a o q).fh (λ_ _ _ z=>z) (λb z=>by rw[aC (fz b _ z)];exact z) λb xs z=>by rw[aC (fz b _ z)];exact z
theorem D9:∀ {a b:List Int},HT.lexLt a b=true->HT.lexLt b a=false
 | [],[],h=>by cases h
 | [],_::_,_=>rfl
 | _::_,[],h=>by cases h
 | x::a,y::b,h=>by
  rw[HT.kO] at h ⊢;by_cases e:x=y
  .subst e;rw[if_pos rfl] at h ⊢;exact D9 h
  .rw[if_neg e] at h;rw[if_neg (Zt e)];have:x<y:=by simpa using h
   simpa using (by walk_at "o" : ¬ y<x)
theorem Ea:∀ {a b c:List Int},HT.lexLt b a=false->HT.lexLt c b=false->HT.lexLt c a=false
 | [],[],[],_,_=>rfl
 | [],[],_::_,_,_=>rfl
 | [],_::_,[],_,h=>by cases h
 | [],_::_,_::_,_,_=>rfl
 | _::_,[],_,h,_=>by cases h
 | _::_,_::_,[],_,h=>by cases h
 | x::a,y::b,z::c,h1,h2=>by
  rw[HT.kO] at h1 h2 ⊢;by_cases e1:y=x
  .subst e1;rw[if_pos rfl] at h1;by_cases e2:z=y
   .subst e2;rw[if_pos rfl] at h2 ⊢;exact Ea h1 h2
   .rw[if_neg e2] at h2 ⊢;exact h2
  .rw[if_neg e1] at h1;have Eb:¬ y<x:=by simpa using h1
   by_cases e2:z=y
   .subst e2;rw[if_neg e1];exact h1
   .rw[if_neg e2] at h2;have qw:¬ z<y:=by simpa using h2
    rw[if_neg (by walk_at "o")];simpa using (by walk_at "o" : ¬ z<x)
section
theorem N8(h:Q (a == b) s):YT (model prog w) A (eqBool (.int a t) (.int b u)) Q E s:=SeqAt.EqAt.int_int a t b u prog w E Q h
theorem Ec:∀ {ns ms:List Int} {us ws:List YB} {i:Nat},ac2 us ns->ac2 ws ms->fin=decide (ns.length<ms.length)->Q (HT.lexLt ns ms) s->PySem.W.KatLex prog w A b fin Q (us.zip ws) i s:=by
 intro ns
 induction ns with
 | nil =>
  intro ms us ws i r q e h;cases r;cases q with
  | nil=>subst e;exact h
  | cons=>subst e;exact h
 | cons n ns ih =>
  intro ms us ws i r q e h;cases r with
  | cons _ t r =>
   cases q with
   | nil=>subst e;exact h
   | cons m t' q =>
    rw[List.zip_cons_cons];refine PySem.W.kat_cons (N8 (PySem.W.kat_go (λhh=>PySem.W.kat_yes ?_) λhh=>PySem.W.kat_no ?_))
    .have e1:n=m:=by simpa using hh
     subst e1;rw[HT.kO,if_pos rfl] at h;exact ih r q (by subst e;simp) h
    .have e1:n≠m:=by simpa using hh
     rw[HT.kO,if_neg e1] at h;cases (b && i == 0) with
     | true=>exact oneLt_int h
     | false=>exact PySem.W.kat_one _ _ (lt_int h)
end
def mJ(sp:Sp):List V->List V->Hp->(List V->Hp->Prop)->Prop
 | [],ks,H,Q=>Q ks H
 | x::r,ks,H,Q=>sp [x] H (λk H1=>mJ sp r (ks++[k]) H1 Q) E0
def b6(K:Yu)(H:Hp):List V->List (List Int)->Prop
 | [],[]=>True
 | k::ks,n::ns=>(∃ p,k = .ref p/\aj K H p (n.map V.int)/\n≠[])/\b6 K H ks ns
 | _,_=>False
theorem b6.len{K:Yu}{H:Hp}:∀ {ks:List V} {ns:List (List Int)},b6 K H ks ns->ks.length=ns.length
 | [],[],_=>rfl
 | _::_,_::_,h=>by simp[b6.len h.2]
 | [],_::_,h=>h.elim
 | _::_,[],h=>h.elim
theorem b6.same{K:Yu}{H H1:Hp}(e:ak H H1):∀ {ks:List V} {ns:List (List Int)},b6 K H ks ns->b6 K H1 ks ns
 | [],[],_=>trivial
 | _::_,_::_,h=>by obtain⟨⟨p,a,b,c⟩,d⟩:=h;exact⟨⟨p,a,dE e b,c⟩,b6.same e d⟩
 | [],_::_,h=>h.elim
 | _::_,[],h=>h.elim
theorem b6.snoc{K:Yu}{H:Hp}{p:YN}{n:List Int}(hp:aj K H p (n.map V.int))(hn:n≠[]):∀ {ks:List V} {ns:List (List Int)},b6 K H ks ns->b6 K H (ks++[.ref p]) (ns++[n])
 | [],[],_=>⟨⟨p,rfl,hp,hn⟩,trivial⟩
 | _::_,_::_,h=>⟨h.1,b6.snoc hp hn h.2⟩
 | [],_::_,h=>h.elim
 | _::_,[],h=>h.elim
theorem b6.get{K:Yu}{H:Hp}:∀ {ks:List V} {ns:List (List Int)} {i:Nat} {k:V},b6 K H ks ns->ks[i]?=some k->∃ p,k = .ref p/\aj K H p ((ns.getD i []).map V.int)
 | [],[],_,_,_,e=>by simp at e
 | k::_,n::_,0,_,h,e=>by simp at e;subst e;obtain⟨⟨p,a,b,_⟩,_⟩:=h;exact⟨p,a,b⟩
 | _::_,_::_,i+1,_,h,e=>by have:=b6.get (i:=i) h.2 (by simpa using e);simpa using this
 | [],_::_,_,_,h,_=>h.elim
 | _::_,[],_,_,h,_=>h.elim
section
theorem b6.dA(I:Inv X pins σ H s):∀ {ks:List V} {ns:List (List Int)} {us:List YB},b6 X.K H ks ns->Vals ks us->∃ fs,af9 s.heap us fs/\fs.length=us.length/\∀ v∈fs,∃ i t,v = .int i t
 | [],[],_,_,.nil=>⟨[],trivial,rfl,λ_ z=>(nomatch z)⟩
 | k::ks,n::ns,_,h,.cons r rs=>by
  obtain⟨⟨p,rfl,hp,hn⟩,h⟩:=h;cases r;obtain⟨fs,a,b,c⟩:=b6.dA I h rs;obtain⟨ai,rv,⟨o,ho,hc,m,hd⟩,_⟩:=I.tuple hp;cases n with
  | nil=>exact absurd rfl hn
  | cons z zs =>
   cases rv with
   | cons r1 r2 =>
    obtain⟨t,rfl⟩:=r1;refine⟨.int z t::fs,PySem.W.KatTups.cons ho hc hd (by simp) a,by simp[b],λv hv=>?_⟩;rcases YV.mp hv with rfl|hv
    .exact⟨_,_,rfl⟩
    .exact c v hv
 | [],_::_,_,h,_=>h.elim
 | _::_,[],_,h,_=>h.elim
noncomputable def b7(kis:List (List Int))(i j:Nat):Bool:=HT.lexLt (kis.getD i []) (kis.getD j [])
theorem jX(kis:List (List Int)):Ord (b7 kis):=⟨λh=>D9 h,λh1 h2=>Ea h1 h2⟩
noncomputable def bz{α:Type}(kis:List (List Int))(d:α)(as:List α):List α:=(bU (b7 kis) as.length).toList.map λi=>as.getD i d
theorem mK:(bz kis d as).Perm as:=by
 have h:=(mI (n:=as.length) (jX kis)).1;have q:=h.map (λi=>as.getD i d);have self:(Y1 as.length).map (λi=>as.getD i d)=as:=by
  apply acn
  .simp
  .intro i h1 h2;simp[Yv,h2]
 rw[self] at q;exact q
theorem oE:(bz kis d as).length=as.length:=mK.length_eq
theorem Ed(hk:kis=as.map f):(bz kis d as).Pairwise (λa b=>HT.lexLt (f b) (f a)=false):=by
 obtain⟨hp,hs⟩:=mI (n:=as.length) (jX kis);have sz:=hp.size;unfold bz;rw[afn];refine List.pairwise_iff_getElem.mpr λi j hi hj gv=>?_;have cu:i<(bU (b7 kis) as.length).size:=by simpa using hi
 have x6:j<(bU (b7 kis) as.length).size:=by simpa using hj
 have q:=hs i j (by lia) (by lia);have e1:(bU (b7 kis) as.length).getD i 0=(bU (b7 kis) as.length)[i]:=by simp[agz,cu]
 have e2:(bU (b7 kis) as.length).getD j 0=(bU (b7 kis) as.length)[j]:=by simp[agz,x6]
 have l1:=bY.below hp (i:=i) (by lia);have l2:=bY.below hp (i:=j) (by lia);rw[e1,e2] at q;rw[e1] at l1;rw[e2] at l2;have q2:HT.lexLt (kis.getD (bU (b7 kis) as.length)[j] []) (kis.getD (bU (b7 kis) as.length)[i] [])=false:=q;have g:∀ k,k<as.length->kis.getD k []=f (as.getD k d):=λk fS=>by subst hk;simp[Yv,fS]
 simp only[Array.getElem_toList];rw[g _ l1,g _ l2] at q2;exact q2
theorem Ee(r:Vals xs vs):Vals (bz kis .non xs) ((bU (b7 kis) xs.length).toList.map λi=>vs.getD i Value.none):=by
 have hp:=(mI (n:=xs.length) (jX kis)).1;have gen:∀ l:List Nat,(∀ i∈l,i<xs.length)->Vals (l.map λi=>xs.getD i .non) (l.map λi=>vs.getD i Value.none):=by
  intro l
  induction l with
  | nil=>intro _;exact .nil
  | cons i l ih =>
   intro h;have hi:=h i (.head _);refine .cons ?_ (ih λj hj=>h j (.tail _ hj));have e:xs[i]?=some xs[i]:=Yx hi;obtain⟨u,eu,ru⟩:=r.get e;show RelV (xs.getD i .non) (vs.getD i Value.none);rw[Yv,Yv,eu,e];exact ru
 exact gen _ λi hi=>by simpa using hp.mem_iff.mp hi
theorem Ef(F:dC X.prog X.w X.K X.mg X.base CX k fa fd [y] sp)(kP:∀ outer H s e s',¬ CX outer H s E0 e s')(hr:bD k A')(hA:A'.frames=X.A.frames)(hb:Binds X.K fd [y] [])(k1:kS≠X.env.locals)(k2:kS∉X.fs)(k3:kS∈X.ex∨X.s₀.heap.objs.size<=kS)(k4:∀ x c,X.env.cells.lookup x=some c->c≠kS)(k5:∀ p∈X.pn++pl,p.1≠kS)(eW:∀ (u:YB) (s:YK) (kvs:List YB) (c:Nat) (C:YB->YK->Prop),kvs.length<64->YT (model X.prog X.w) A' (call (.ref fa) [u]) (λv s'=>s'.heap.get? kS=some { cls:=.type "list",data:=.seq kvs.toArray c }/\C v { s' with heap:=s'.heap.update kS (Zg (·.push v)) }) (λ_ _=>False) s ->
 YT (model X.prog X.w) A' (body u ⟨⟩) (λr s'=>r = .yield ⟨⟩/\∃ v,C v s') E s) :
 ∀ (r ks:List V) (Eg kvs:List YB) (c:Nat) (H:Hp) (s:YK),ks.length+r.length<64->Inv X (pl++[(kS,{ cls:=.type "list",data:=.seq kvs.toArray c })]) σ H s->Vals ks kvs->Vals r Eg->mJ sp r ks H Qk ->
  YT (model X.prog X.w) A' (forIn Eg PUnit.unit body) (λ_ s'=>∃ jh ji H' c',Inv X (pl++[(kS,{ cls:=.type "list",data:=.seq (ji:List YB).toArray c' })]) σ H' s'/\Vals jh ji/\jh.length=ks.length+r.length/\Qk jh H') E s
 | [],ks,_,kvs,c,H,s,hl,I,rk,.nil,h=>by rw[List.forIn_nil];exact Yz ⟨ks,kvs,H,c,I,rk,by simp,h⟩
 | x::r,ks,_,kvs,c,H,s,hl,I,rk,.cons (b:=u) rx rr,h=>by
  rw[Zr] at hl;rw[List.forIn_cons];have qx:=rk.length;have h':sp [x] H (λk H1=>mJ sp r (ks++[k]) H1 Qk) E0:=h;have e0:kM X.prog X.w X.K X.mg X.base A' X.stack s H:=⟨hA.trans I.i4.frames,I.i4.mod,I.i4.bs,I.i4.bsz,I.i4.eQ,I.i4.frf,I.i4.ao,I.i4.bare⟩
  refine Yt (Zz (eW u s kvs c (λv s'=>∃ z H' c',Inv X (pl++[(kS,{ cls:=.type "list",data:=.seq (kvs++[v]).toArray c' })]) σ H' s'/\RelV z v/\mJ sp r (ks++[z]) H' Qk) (by walk_at "o") ?_) (λq s' hq=>?_) λ_ _ z=>z)
  .refine ael (abM (F.run A' X.stack s H ⟨[u],[]⟩ [u] [x] _ E0 hr e0 (hb s [u] I.bZ rfl) (.cons rx .nil) h') λres s' hq=>?_);cases res with
   | error e=>exact absurd hq (kP _ _ _ _ _)
   | ok fl =>
    cases fl with
    | ret v =>
     obtain⟨z,H',I',rz,qz⟩:=I.after hq;have pk:=I'.pin (kS,{ cls:=.type "list",data:=.seq kvs.toArray c }) (YL _ (YL _ (YZ.mpr rfl)));obtain⟨c2,o2⟩:∃ c2,(s'.heap.update kS (Zg (·.push v))).get? kS=some { cls:=.type "list",data:=.seq (kvs++[v]).toArray c2 }:=⟨_,by rw[<- afk];exact adL pk.1 (λa=>a.push v)⟩
     have I2:Inv X pl σ H' { s' with heap:=s'.heap.update kS (Zg (·.push v)) }:=I'.mq.turned (it:=kS) (λb o hb e=>(YM _ _ (Zt hb)).trans e) pk.2.1 k1 k3 k4 k5;refine⟨pk.1,z,H',c2,I2.mf λp hp=>?_,rz,qz⟩;rcases YX.mp hp with hp|hp
     .exact I2.pin p (YL _ hp)
     .have:p=_:=YZ.mp hp;subst this;exact⟨o2,pk.2.1,k1,k2,λv z=>nomatch z⟩
    | next=>exact hq.elim
    | brk=>exact hq.elim
    | cont=>exact hq.elim
  .obtain⟨rfl,v,z,H',c',I2,rz,qz⟩:=hq;show YT _ _ (forIn _ PUnit.unit body) _ _ s';refine Zz (Ef F kP hr hA hb k1 k2 k3 k4 k5 eW r (ks++[z]) _ (kvs++[v]) c' H' s' (by rw[YJ,YR];walk_at "o") I2 (rk.append (.cons rz .nil)) rr qz) (λ_ s3 ⟨jh,ji,H3,c3,I3,r3,l3,q3⟩=>⟨jh,ji,H3,c3,I3,r3,?_,q3⟩) λ_ _ z=>z;rw[l3,YJ,YR,Zr];walk_at "o"
theorem Oa(I:Inv X pins σ H s)(hS:ah X.K H a xs)(bH:xs.length<64)(F:dC X.prog X.w X.K X.mg X.base CX k fa fd [y] sp)(kP:∀ outer H s e s',¬ CX outer H s E0 e s')(hr:bD (k+2) X.A)(hb:Binds X.K fd [y] [])(h:mJ sp xs [] H λks H2=>∃ kis,b6 X.K H2 ks kis/\∀ l,H2 l=none->Q (.ref l) (upd H2 l (.lst (bz kis .non xs)))) :
 YT (model X.prog X.w) X.A (call (.builtin "sorted") [.ref a] [(YG "key",.ref fa)]) (EP X pins σ Q) X.xe s:=by
 obtain⟨ai,rv,⟨o,n,ho,aX,hdc,hdt⟩,hlen⟩:=I.list hS;have hl:s.heap.IsList a ai.toArray:=⟨o,ho,aX,n,hdt⟩
 have len:ai.length=xs.length:=rv.length.symm;refine call_function_entry_kw kind_sorted plain_sorted entry_sorted (ksk_s1 _ _) ?_;unfold aas.«sorted»;refine Yt (m:=checkCount "sorted" 1 1 _) (Yz ?_);refine Yt (collect_list hl ?_ (by rw[Z8];walk_at "o"));refine Yt (adD ?_ (by rw[Z8];walk_at "o"));have Eh:((s.heap.push (ZQ "list" #[] 0)).update s.heap.objs.size (Zg (· ++ ai.toArray))).objs.size=s.heap.objs.size+1:=by rw[afK,aap]
 have Ei:∀ b o,s.heap.get? b=some o->((s.heap.push (ZQ "list" #[] 0)).update s.heap.objs.size (Zg (· ++ ai.toArray))).get? b=some o:=λb o e=>by have:=YA e;exact (YM _ _ (by walk_at "o")).trans (Yy _ e)
 generalize ((s.heap.push (ZQ "list" #[] 0)).update s.heap.objs.size (Zg (· ++ ai.toArray)))=h0 at Eh Ei ⊢;have oL:(h0.push (ZQ "list" ai.toArray 0)).get? h0.objs.size=some (ZQ "list" ai.toArray 0):=YH _ rfl;have iy:∀ b o,s.heap.get? b=some o->b≠h0.objs.size/\(h0.push (ZQ "list" ai.toArray 0)).get? b=some o:=λb o e=>by have:=YA e;exact⟨by walk_at "o",Yy _ (Ei b o e)⟩
 have x8:(h0.push (ZQ "list" ai.toArray 0)).objs.size=s.heap.objs.size+2:=by rw[aap,Eh]
 have hle:s.heap.objs.size<=h0.objs.size:=by walk_at "o"
 show YT _ X.A.in1 (holding [.ref h0.objs.size] (call (.builtin "list.sort") [.ref h0.objs.size] [(YG "key",.ref fa)]) >>= _) _ _ { s with heap:=h0.push (ZQ "list" ai.toArray 0) };generalize h0.push (ZQ "list" ai.toArray 0)=h1 at oL iy x8 ⊢;generalize h0.objs.size=l at oL iy x8 hle ⊢;refine Yt (ZN (wpAny_call_entry_kw slot_list_sort ⟨_,oL,rfl⟩ aga ?body (ksk_l1 _ _)))
 case body =>
  show YT (model X.prog X.w) X.A.in1.in1 (aas.«list.sort» ⟨[.ref l],[(YG "key",.ref fa)]⟩) _ _ _;rw[ksk_t1];unfold ksk_tree;refine Yt (afC oL rfl ?_);refine Yt (abp oL rfl ?_ (by rw[YI,Z8];walk_at "o") (Zc _));obtain⟨e1,uD⟩:∃ e1,(h1.update l (Zg λ_=>(#[]:Array YB))).get? l=some (ZQ "list" #[] e1):=⟨_,acF oL λ_=>#[]⟩
  refine Yt (adE uD rfl ?_);have oF:∀ b o,s.heap.get? b=some o->b≠l/\(h1.update l (Zg λ_=>(#[]:Array YB))).get? b=some o:=λb o e=>⟨(iy b o e).1,(YM _ _ (Zt (iy b o e).1)).trans (iy b o e).2⟩
  have x9:(h1.update l (Zg λ_=>(#[]:Array YB))).objs.size=s.heap.objs.size+2:=by rw[afK,x8]
  show YT _ _ _ _ _ { s with heap:=h1.update l (Zg λ_=>(#[]:Array YB)) };generalize h1.update l (Zg λ_=>(#[]:Array YB))=h2 at uD oF x9 ⊢;refine Yt (aez ?_ (by show ai.length<=_;rw[Z8];walk_at "o"));refine Yt (adD ?_ (Zc _));refine ZN ?_;show YT _ _ (ksk_rest l (.ref fa) false ai.toArray e1 (.ref (h2.push (ZQ "tuple" ai.toArray 0)).objs.size)) _ _ { s with heap:=(h2.push (ZQ "tuple" ai.toArray 0)).push (ZQ "list" #[] 0) };have ya:∀ b o,h2.get? b=some o->((h2.push (ZQ "tuple" ai.toArray 0)).push (ZQ "list" #[] 0)).get? b=some o:=λb o e=>Yy _ (Yy _ e);have oK:((h2.push (ZQ "tuple" ai.toArray 0)).push (ZQ "list" #[] 0)).get? (h2.push (ZQ "tuple" ai.toArray 0)).objs.size=some (ZQ "list" #[] 0):=YH _ rfl;have Ob:(h2.push (ZQ "tuple" ai.toArray 0)).objs.size=s.heap.objs.size+3:=by rw[aap,x9]
  generalize (h2.push (ZQ "tuple" ai.toArray 0)).push (ZQ "list" #[] 0)=h4 at ya oK ⊢;generalize (h2.push (ZQ "tuple" ai.toArray 0)).objs.size=kS at Ob oK ⊢;have lL:l<s.heap.objs.size+2:=by rw[<- x9];exact YA uD
  have I4:Inv X pins σ H { s with heap:=h4 }:=I.kept (t':=s.toks) λb o e=>ya b o (oF b o e).2;have fl:=I.fq (H':=H) hle (I.ao.fresh hle);have fk:=I.fq (b:=kS) (H':=H) (by walk_at "o") (I.ao.fresh (by walk_at "o"));have Ej:l≠kS:=by walk_at "o"
  have Oc:X.s₀.heap.objs.size<=l:=YE I.sz hle;have I5:Inv X ((pins++[(l,ZQ "list" #[] e1)])++[(kS,{ cls:=.type "list",data:=.seq ([]:List YB).toArray 0 })]) σ H { s with heap:=h4 }:=I4.mf λp hp=>by
   rcases YX.mp hp with hp|hp
   .rcases YX.mp hp with hp|hp
    .exact I4.pin p (YL _ hp)
    .have:p=_:=YZ.mp hp;subst this;exact⟨ya _ _ uD,fl.1,fl.2.1,fl.2.2.1,λv z=>nomatch z⟩
   .have:p=_:=YZ.mp hp;subst this;exact⟨oK,fk.1,fk.2.1,fk.2.2.1,λv z=>nomatch z⟩
  unfold ksk_rest;refine Yt (abn ?_);rw[<- Array.forIn_toList];refine Yt (Zz (Ef (A':=X.A.in1.in1) (kS:=kS) (pl:=pins++[(l,ZQ "list" #[] e1)]) F kP (hr.in1.in1) rfl hb fk.2.1 fk.2.2.1 fk.2.2.2.1 fk.2.2.2.2.1 (λp hp=>?_) (λu s' kvs c C hz hx=>?_) xs [] ai [] 0 H _ (by simpa using bH) I5 .nil rv h) (λ_ s6 h6=>?_) λ_ _ z=>z)
  .rw[<- abo] at hp;rcases YX.mp hp with hp|hp
   .exact fk.2.2.2.2.2 p hp
   .have:p=_:=YZ.mp hp;subst this;exact Ej
  .refine Yt (abq (Zz hx (λv s2 hv=>?_) λ_ _ z=>z.elim));dsimp only;refine Yt (abp hv.1 rfl ?_ (by rw[YI,Z8];walk_at "o") (YE (ad7 (agb ..)) (by rw[YI,Z8];walk_at "o")));exact Yz ⟨rfl,v,hv.2⟩
  .obtain⟨ks,kvs,H6,c6,I6,r6,l6,kis,hK,q6⟩:=h6;have lk:kvs.length=ai.length:=by rw[<- r6.length,l6];simp[len]
   have Yb:kis.length=xs.length:=by rw[<- hK.len,l6];simp
   have pk:=I6.pin (kS,{ cls:=.type "list",data:=.seq kvs.toArray c6 }) (YL _ (YL _ (YZ.mpr rfl)));have pl:=I6.pin (l,ZQ "list" #[] e1) (YL _ (Zl _ (YL _ (YZ.mpr rfl))));refine Yt (afC pk.1 rfl ?_);have tail:∀ (st:SortSt) (out:List YB),(arrOf st).map (·.2)=ZT out->agH st=none->Vals (bz kis .non xs) out ->
    YT (model X.prog X.w) X.A.in1.in1 (ksk_tail l false e1 (.ref kS) st) (λfin s'=>∃ v,fin = .done (.ret v)/\EP X pins σ Q (.ref l) s') (λe s'=>X.xe e s') s6:=λst out e0 ef hv=>by
    have lo:out.length=xs.length:=by rw[<- hv.length,oE]
    unfold ksk_tail;dsimp only;rw[e0];refine Yt (abp pk.1 rfl ?_ (by rw[YI,Z8];walk_at "o") (Zc _));refine Yt (abg ?_);have yb:(s6.heap.update kS (Zg λ_=>(#[]:Array YB))).get? l=some (ZQ "list" #[] e1):=(YM _ _ (Zt Ej)).trans pl.1;refine Yt (adE yb rfl ?_);refine Yt (abp yb rfl ?_ (Zc _) (by show (ZT out).size<=_;rw[YI,Z8];walk_at "o"));rw[ef];simp only[bne_self_eq_false,Y5,if_false];refine Yz ⟨_,rfl,.ref l,upd H6 l (.lst (bz kis .non xs)),?_,rfl,q6 l pl.2.1⟩;have I7:Inv X pins σ H6 { s6 with heap:=s6.heap.update kS (Zg λ_=>(#[]:Array YB)) }:=(I6.mq.mq).turned (it:=kS) (λb o hb e=>(YM _ _ (Zt hb)).trans e) pk.2.1 fk.2.1 fk.2.2.2.1 fk.2.2.2.2.1 fk.2.2.2.2.2;have I8:Inv X pins σ H6 { s6 with heap:=(s6.heap.update kS (Zg λ_=>(#[]:Array YB))).update l (Zg λ_=>ZT out) }:=L2.Inv.turned (s:={ s6 with heap:=s6.heap.update kS (Zg λ_=>(#[]:Array YB)) }) (t':=s6.toks) (it:=l) I7 (λb o hb e=>(YM _ _ (Zt hb)).trans e) pl.2.1 fl.2.1 fl.2.2.2.1 fl.2.2.2.2.1 fl.2.2.2.2.2;obtain⟨c9,Od⟩:∃ c9,((s6.heap.update kS (Zg λ_=>(#[]:Array YB))).update l (Zg λ_=>ZT out)).get? l=some (ZQ "list" (ZT out) c9):=⟨_,acF yb λ_=>ZT out⟩
    exact Inv.N5 I8 ⟨pl.2.1,fl.2⟩ Oc Od hv (by rw[oE];exact hlen)
   unfold ksk_end;dsimp only;have fin:∀ (st:SortSt) (out:List YB),(arrOf st).map (·.2)=ZT out->agH st=none->Vals (bz kis .non xs) out ->
    YT (model X.prog X.w) X.A.in1.in1 (ksk_tail l false e1 (.ref kS) st) (λfin s'=>∃ v,fin=PySem.Fin.done (Flow.ret v)/\YT (model X.prog X.w) X.A.in1 (ret (.ref l)) (λfin s'=>∃ v,fin=PySem.Fin.done (Flow.ret v)/\EP X pins σ Q v s') X.xe s') X.xe s6:=λst out e0 ef hv =>
    aD (tail st out e0 ef hv) λfin s' ⟨v,e,q⟩=>⟨v,e,Yz ⟨_,rfl,q⟩⟩
   have sv:=Ee (kis:=kis) rv;by_cases h2:ai.toArray.size<2
   .rw[if_neg (by decide),if_pos h2,if_pos h2];refine Yt (Yz ?_);rw[StateT.run_pure];refine Yt (Yz ?_);dsimp only;have bp:xs.length<2:=by rw[YI] at h2;walk_at "o"
    refine fin _ _ ?_ rfl sv;show (if false=true then (kvs.toArray.zip ai.toArray).reverse else kvs.toArray.zip ai.toArray).map (·.2)=_;rw[if_neg (by decide)];unfold bU;rw[if_pos bp];apply afL.mp;have self:(Y1 xs.length).map (λi=>ai.getD i Value.none)=ai:=by
     rw[<- len];apply acn
     .simp
     .intro i h1 h2;simp[Yv,h2]
    simp[afM,lk];simpa [Yv] using self.symm
   .rw[if_neg (by decide),if_neg h2,if_neg h2,if_neg (by decide)];have qw:2<=ai.length:=by rw[YI] at h2;walk_at "o"
    obtain⟨fs,ht,lf,hi⟩:=b6.dA I6 hK r6;have eT:(ab3 "int" != ab3 "tuple")=true:=by decide
    refine Yt (afN (T:=.type "int") ht (by walk_at "o") (λv hv=>?_) (by decide) ?_)
    .obtain⟨i,t,rfl⟩:=hi v hv;exact PySem.W.Looks.now
    rw[eT];have ask:(afO ai.length).kasWp (agc X.prog X.w X.A.in1.in1 (ahd true) kvs) (λp s'=>s'=s6/\p=bU (b7 kis) xs.length) s6:=by
     rw[len];have pv:=x5 _ (x4 (n:=xs.length) (jX kis) (by walk_at "o"));refine xZ (lt:=b7 kis) (n:=xs.length) (Ok:=λs'=>s'=s6) (λi j C s' hi hj e q=>?_) (λp s' e q=>⟨e,?_⟩) _ s6 rfl pv
     .subst e;have g:∀ i,i<xs.length->∃ p o its' m,kvs.getD i Value.none = .ref p/\s'.heap.get? p=some o/\o.data = .seq (its':List YB).toArray m/\ac2 its' (kis.getD i []):=λi hi=>by
       have hk:i<ks.length:=by rw[l6];simpa using hi
       obtain⟨p,ep,hp⟩:=hK.get (Yx hk);obtain⟨u,eu,ru⟩:=r6.get (Yx hk);rw[ep] at ru;cases ru;obtain⟨its',xP,⟨o,ho,_,m,hd⟩,_⟩:=I6.tuple hp;exact⟨p,o,its',m,by rw[Yv,eu];rfl,ho,hd,intsAre_of xP⟩
      obtain⟨p1,o1,i1,m1,a1,b1,c1,d1⟩:=g i hi;obtain⟨p2,o2,i2,m2,a2,b2,c2,d2⟩:=g j hj;show YT _ _ (keyLt' (ahd true) (kvs.getD i Value.none) (kvs.getD j Value.none)) C _ s';rw[a1,a2];have z1:=d1.length;have z2:=d2.length;exact agn b1 c1 b2 c2 (by simpa using Ec (b:=true) (i:=0) d1 d2 (by simp[z1,z2]) (q s' rfl))
     .rw[q];unfold bU;rw[if_neg (by walk_at "o")]
    refine Yt (Zz (agd (κ:=ahd true) (ks:=kvs) (vs:=ai) (Q:=λst s'=>s'=s6/\arrOf st=(bU (b7 kis) xs.length).map (afP (kvs.toArray.zip ai.toArray))/\agH st=none)
     lk qw (by walk_at "o") (λp st s' b1 b2 b3 b4=>⟨b4.1,by rw[b2,b4.2],b3⟩) ask) ?_ λ_ _ z=>z)
    rintro ⟨⟨⟩,st⟩ s' ⟨rfl,har,hf⟩;exact fin st _ (afQ lk har) hf sv
def Ek(K:Yu)(sp:Sp)(x:V)(H1:Hp)(Q:VK):Prop:=∃ (a:YN) (xs:List V),x = .ref a/\ah K H1 a xs/\xs.length<64/\mJ sp xs [] H1 λks H2=>∃ kis,b6 K H2 ks kis/\∀ l,H2 l=none->Q (.ref l) (upd H2 l (.lst (bz kis .non xs)))
def El(K:Yu)(sp:Sp)(te:TE):TE:=λσ H Q=>te σ H λx H1=>Ek K sp x H1 Q
theorem Oe(F:dC X.prog X.w X.K X.mg X.base CX k fa fd [y] sp)(kP:∀ outer H s e s',¬ CX outer H s E0 e s')(hr:bD (k+2) X.A)(hb:Binds X.K fd [y] [])(Of:Gl X f)(Og:X.mg f=some (.ref fa))(hg:Gl X "sorted")(hm:X.mg "sorted" = none)(he:PE X e te)(yc:(f == ("__debug__" : Str))=false:=by decide)(hs:Y2 [e] X.env=(false,eval e X.env)::Y2 [] X.env:=by rfl)(hq:aaC pos (Y2 [e] X.env)=(false,eval e X.env)::aaC pos (Y2 [] X.env):=by rfl) :
 PE X (.Call (.Name "sorted" p) [e] [⟨some "key",.Name f pf,kp⟩] pos) (El X.K sp te):=by
 intro pins s σ H Q I h;refine ZU (dR I hg hm xf ?_ (by decide));refine callWith_kw (aD ((ae he ag hs) pos pins s σ H (xH λx H1=>Ek X.K sp x H1 Q) I h) λus s1 ⟨vs,H1,I1,r,q⟩=>?_) hq (by rw[hs];rfl);obtain⟨x,rfl,a,xs,rfl,hS,bH,q⟩:=DP q;obtain⟨u,rfl,ru⟩:=vals1 r;cases ru;refine kws_cons (nW I1 Of Og (kws_nil ?_) yc);exact Oa I1 hS bH F kP hr hb q
end
abbrev En:=Option Int
noncomputable def ev:En->V
 | none=>.non
 | some i=>.int i
theorem uE:ev none = .non:=rfl
theorem uF(i:Int):ev (some i) = .int i:=rfl
noncomputable def aO:En->En->Bool
 | some x,some y=>decide (y<x)
 | _,_=>false
def aG(H:Hp)(v:V)(a b:En):Prop:=∃ p,v = .ref p/\H p=some (.tup [ev a,ev b])
theorem aG.same(h:aG H v a b)(s:ak H H1):aG H1 v a b:=by obtain⟨p,e,h⟩:=h;exact⟨p,e,s _ _ h⟩
theorem aG.new:aG (upd H p (.tup [ev a,ev b])) (.ref p) a b:=⟨p,rfl,az⟩
noncomputable def hold(a b:En)(n:Int):Bool:=!aO a (some n) && !aO (some n) b
theorem uG:hold a b n=true↔(∀ x,a=some x->x<=n)/\(∀ y,b=some y->n<=y):=by unfold hold;rcases a with _|x<;>rcases b with _|y<;>simp[aO]
noncomputable def di:En->En->En
 | some x,some y=>some (if y > x then y else x)
 | some x,none=>some x
 | none,b=>b
noncomputable def dj:En->En->En
 | some x,some y=>some (if y<x then y else x)
 | some x,none=>some x
 | none,b=>b
noncomputable def nums(a b:En):List Int:=[a,b].filterMap id
noncomputable def qy(v:V):Bool:=!decide (v = .non)
theorem Oh(a b:En):([ev a,ev b].filter qy).map (λv=>v)=(nums a b).map V.int:=by rcases a with _|x<;>rcases b with _|y<;>simp[ev,nums,qy]
theorem Oi(a b:En):mG jf (nums a b) .non=ev (di a b):=by rcases a with _|x<;>rcases b with _|y<;>simp[nums,di,jf,mG,ev]
theorem Oj(a b:En):mG jV (nums a b) .non=ev (dj a b):=by rcases a with _|x<;>rcases b with _|y<;>simp[nums,dj,jV,mG,ev]
theorem Ol(b:En):aO none b=false:=by cases b<;>rfl
theorem Oo(a:En):aO a none=false:=by cases a<;>rfl
def Em(H:Hp)(v:V)(lo hi:En):Prop:=(aO lo hi=true->v = .non)/\(aO lo hi=false->aG H v lo hi)
theorem Eo{K:Yu}{H:Hp}{p:YN}{a b:En}{Q:VK}{tt:TT}{te:TE}(hp:H p=some (.tup [ev a,ev b]))(ht:∀ x H Q,Q (qy x) H->tt [some x] H Q)(he:∀ x H Q,Q x H->te [some x] H Q)
 (q:∀ l,H l=none->Q (.ref l) (upd H l (.lst ((nums a b).map V.int)))):kX (qc K p) [] tt te H Q:=by
 refine bS (xs:=[ev a,ev b]) xD br (oq (p:=qy) (f:=λv=>v) (aj.of hp) (λx _ Q h=>ht x H Q h) (λx _ _ Q h=>he x H Q h) ?_);rw[YY,Oh];exact q
end Gz
namespace Gz
open L2
abbrev S2:=En × En
noncomputable def hs(s:S2)(n:Int):Bool:=hold s.1 s.2 n
def eZ(s:S2):Prop:=aO s.1 s.2=false
noncomputable def cR:En->List Int
 | none=>[0,0]
 | some x=>[1,x]
def fD(a b:En):Prop:=a=none ∨ ∃ x y,a=some x/\b=some y/\x<=y
theorem Oq:HT.lexLt (cR b) (cR a)=false↔fD a b:=by
 rcases a with _|x<;>rcases b with _|y
 .exact⟨λ_=>.inl rfl,λ_=>rfl⟩
 .exact⟨λ_=>.inl rfl,λ_=>rfl⟩
 .refine⟨λh=>(nomatch h),λh=>?_⟩;rcases h with h|⟨_,_,_,h,_⟩<;>cases h
 .have e:HT.lexLt (cR (some y)) (cR (some x))=decide (y<x):=by
   show HT.lexLt [1,y] [1,x]=_;rw[HT.kO,if_pos rfl,HT.kO];split
   .rename_i e;subst e;rw[HT.Ln];simp
   .rfl
  rw[e];constructor
  .intro h;have:¬ y<x:=by simpa using h
   exact .inr ⟨x,y,rfl,rfl,by lia⟩
  .intro h;rcases h with h|⟨x',y',e1,e2,h⟩
   .cases h
   .cases e1;cases e2;simpa using h
theorem fD.refl(a:En):fD a a:=by
 rcases a with _|x
 .exact .inl rfl
 .exact .inr ⟨x,x,rfl,rfl,ZJ _⟩
noncomputable def gap(p q:S2):Bool:=match p.2,q.1 with
 | some h,some l=>decide (l > h+1)
 | _,_=>false
noncomputable def oG:En->En->En
 | some x,some y=>some (if y<x then y else x)
 | _,_=>none
noncomputable def iz:En->En->En
 | some x,some y=>some (if y > x then y else x)
 | _,_=>none
noncomputable def jY(p q:S2):S2:=(oG p.1 q.1,iz p.2 q.2)
theorem Ot(h:fD a b):oG a b=a:=by
 rcases h with rfl|⟨x,y,rfl,rfl,h⟩
 .cases b<;>rfl
 .simp only[oG];rw[if_neg (by lia)]
theorem oH:hs s n=true↔(∀ x,s.1=some x->x<=n)/\(∀ y,s.2=some y->n<=y):=uG
theorem Ou(hp:eZ p)(hq:eZ q)(hl:fD p.1 q.1)(hg:gap p q=false):(hs p n || hs q n)=hs (jY p q) n:=by obtain⟨a,b⟩:=p;obtain⟨c,d⟩:=q;rw[aaH,abT,oH,oH,oH];simp only[eZ,gap,jY,fD] at *;rcases a with _|x<;>rcases b with _|y<;>rcases c with _|z<;>rcases d with _|w<;>simp[aO,oG,iz] at *<;>(try (constructor<;>intro h))<;>(try split at *)<;>(try split)<;>lia
def yd(p q:S2):Prop:=∃ h l,p.2=some h/\q.1=some l/\h+2<=l
def Apart:List S2->Prop
 | x::y::r=>yd x y/\Apart (y::r)
 | _=>True
theorem Apart.snoc:∀ {i:List S2} {p q:S2},Apart (i++[p])->yd p q->Apart (i++[p,q])
 | [],p,q,_,h=>⟨h,trivial⟩
 | [x],p,q,h,h'=>⟨h.1,h',trivial⟩
 | x::y::r,p,q,h,h'=>⟨h.1,Apart.snoc (i:=y::r) h.2 h'⟩
theorem Apart.last:∀ {i:List S2} {p q:S2},Apart (i++[p])->p.1=q.1->Apart (i++[q])
 | [],p,q,_,h=>trivial
 | [x],p,q,h,h'=>by obtain⟨⟨a,b,e1,e2,e3⟩,_⟩:=h;exact⟨⟨a,b,e1,h' ▸ e2,e3⟩,trivial⟩
 | x::y::r,p,q,h,h'=>⟨h.1,Apart.last (i:=y::r) h.2 h'⟩
def gO(l:List En)(e:En):Prop:=e∈l/\∀ x∈l,fD e x
def fE(a b:En):Prop:=b=none ∨ ∃ x y,a=some x/\b=some y/\x<=y
def jk(l:List En)(e:En):Prop:=e∈l/\∀ x∈l,fE x e
theorem fD.ye(h:fD a b)(h':fD b a):a=b:=by
 rcases h with rfl|⟨x,y,rfl,rfl,h1⟩
 .rcases h' with h'|⟨x,y,e,e',_⟩
  .exact h'.symm
  .cases e'
 .rcases h' with h'|⟨x',y',e,e',h2⟩
  .cases h'
  .cases e;cases e';congr 1;lia
theorem fE.ye(h:fE a b)(h':fE b a):a=b:=by
 rcases h with rfl|⟨x,y,rfl,rfl,h1⟩
 .rcases h' with h'|⟨x,y,e,e',_⟩
  .exact h'
  .cases e
 .rcases h' with h'|⟨x',y',e,e',h2⟩
  .cases h'
  .cases e;cases e';congr 1;lia
theorem fE.refl(a:En):fE a a:=by
 rcases a with _|x
 .exact .inl rfl
 .exact .inr ⟨x,x,rfl,rfl,ZJ _⟩
theorem fE.trans(h:fE a b)(h':fE b c):fE a c:=by
 rcases h' with rfl|⟨x',y',rfl,rfl,h2⟩
 .exact .inl rfl
 .rcases h with h|⟨x,y,rfl,e,h1⟩
  .cases h
  .cases e;exact .inr ⟨_,_,rfl,rfl,by lia⟩
theorem gO.uniq(h:gO l a)(h':gO l' b)(e:∀ x,x∈l↔x∈l'):a=b:=(h.2 b ((e b).mpr h'.1)).ye (h'.2 a ((e a).mp h.1))
theorem jk.uniq(h:jk l a)(h':jk l' b)(e:∀ x,x∈l↔x∈l'):a=b:=(h'.2 a ((e a).mp h.1)).ye (h.2 b ((e b).mpr h'.1))
theorem Ov(a b:En):fE a (iz a b)/\fE b (iz a b)/\(iz a b=a∨iz a b=b):=by rcases a with _|x<;>rcases b with _|y<;>simp[iz,fE];split<;>lia
abbrev qA:=Option (List S2 × S2)
noncomputable def dX:qA->S2->qA
 | none,q=>some ([],q)
 | some (i,p),q=>if gap p q then some (i++[p],q) else some (i,jY p q)
noncomputable def gP:qA->List S2
 | none=>[]
 | some (i,p)=>i++[p]
structure mL(ps:List S2)(i:List S2)(p:S2):Prop where
 ap:Apart (i++[p])
 ok:∀ s∈i++[p],eZ s
 held:∀ n,((i++[p]).any λs=>hs s n)=ps.any λs=>hs s n
 lo:gO (ps.map (·.1)) ((i++[p]).headD p).1
 hi:jk (ps.map (·.2)) p.2
 at_:p.1∈ps.map (·.1)
theorem mL.step(h:mL ps i p)(hq:eZ q)(hl:∀ s∈ps,fD s.1 q.1):∃ i' p',dX (some (i,p)) q=some (i',p')/\mL (ps++[q]) i' p':=by
 have hp:eZ p:=h.ok p (by simp);have c8:fD p.1 q.1:=by obtain⟨s,hs,e⟩:=YO.mp h.at_;rw[<- e];exact hl s hs
 have Ep:gO ((ps++[q]).map (·.1)) ((i++[p]).headD p).1:=by
  refine⟨by rw[Zd];exact Zl _ h.lo.1,λx hx=>?_⟩;rw[Zd] at hx;rcases YX.mp hx with hx|hx
  .exact h.lo.2 x hx
  .have:x=q.1:=by simpa using hx
   subst this;obtain⟨s,hs,e⟩:=YO.mp h.lo.1;rw[<- e];exact hl s hs
 simp only[dX];by_cases hg:gap p q=true
 .rw[if_pos hg];refine⟨_,_,rfl,?_⟩;obtain⟨a,b,e1,e2,e3⟩:yd p q:=by
   unfold gap at hg;split at hg
   .rename_i x y e1 e2;refine⟨x,y,e1,e2,?_⟩;have:y > x+1:=by simpa using hg
    lia
   .cases hg
  have hd:((i++[p]++[q]).headD q).1=((i++[p]).headD p).1:=by cases i<;>rfl
  refine⟨by rw[abo];exact h.ap.snoc ⟨a,b,e1,e2,e3⟩,λs hs=>?_,λn=>?_,by rw[hd];exact Ep,?_,?_⟩
  .rcases YX.mp hs with hs|hs
   .exact h.ok s hs
   .have:s=q:=by simpa using hs
    subst this;exact hq
  .have hh:=h.held n;rw[abi] at hh;rw[abi,abi,abi,hh]
  .refine⟨by simp,λx hx=>?_⟩;rw[Zd] at hx;rcases YX.mp hx with hx|hx
   .have z:=h.hi.2 x hx;rw[e1] at z;rcases mM:q.2 with _|y
    .exact .inl rfl
    .have jJ:=hq;unfold eZ at jJ;rw[e2,mM] at jJ;have:¬ y<b:=by simpa [aO] using jJ
     rcases z with z|⟨u,v,rfl,ev,h1⟩
     .cases z
     .cases ev;exact .inr ⟨_,_,rfl,rfl,by lia⟩
   .have:x=q.2:=by simpa using hx
    subst this;exact fE.refl _
  .simp
 .have xI:gap p q=false:=by simpa using hg
  rw[if_neg hg];refine⟨_,_,rfl,?_⟩;have e1:(jY p q).1=p.1:=Ot c8;have hd:((i++[jY p q]).headD (jY p q)).1=((i++[p]).headD p).1:=by
   cases i with
   | nil=>exact e1
   | cons x r=>rfl
  obtain⟨m1,m2,m3⟩:=Ov p.2 q.2;refine⟨h.ap.last e1.symm,λs hs=>?_,λn=>?_,by rw[hd];exact Ep,⟨?_,λx hx=>?_⟩,?_⟩
  .rcases YX.mp hs with hs|hs
   .exact h.ok s (Zl _ hs)
   .have:s=jY p q:=by simpa using hs
    subst this;unfold eZ at *;rw[e1];show aO p.1 (iz p.2 q.2)=false;rcases m3 with m3|m3
    .rw[m3];exact hp
    .rw[m3];rcases c8 with z|⟨x,y,z1,z2,z3⟩
     .rw[z];exact Ol _
     .rw[z1];rw[z2] at hq;rcases mM:q.2 with _|w
      .exact Oo _
      .rw[mM] at hq;simp[aO] at hq ⊢;lia
  .have hh:=h.held n;rw[abi] at hh ⊢;rw[abi,<- hh];have k:=Ou (n:=n) hp hq c8 xI;simp only[ZV,List.any_nil,agF];rw[<- k,Bool.or_assoc]
  .rw[Zd];show iz p.2 q.2∈_;rcases m3 with m3|m3
   .rw[m3];exact Zl _ h.hi.1
   .rw[m3];simp
  .rw[Zd] at hx;rcases YX.mp hx with hx|hx
   .exact (h.hi.2 x hx).trans m1
   .have:x=q.2:=by simpa using hx
    subst this;exact m2
  .rw[e1,Zd];exact Zl _ h.at_
noncomputable def uH(zs:List S2):qA:=zs.foldl dX none
theorem Er:∀ (rest ps i:List S2) (p:S2),mL ps i p->(∀ s∈rest,eZ s)->(ps++rest).Pairwise (λa b=>fD a.1 b.1)->∃ i' p',rest.foldl dX (some (i,p))=some (i',p')/\mL (ps++rest) i' p'
 | [],ps,i,p,h,_,_=>⟨i,p,rfl,by rw[acz];exact h⟩
 | q::rest,ps,i,p,h,ho,hp=>by
  obtain⟨i1,p1,e,h1⟩:=h.step (ho q (.head _)) λs hs=>(aes.mp hp).2.2 s hs q (.head _);have ea:ps++q::rest=(ps++[q])++rest:=by simp
  rw[ea] at hp;obtain⟨i2,p2,e2,h2⟩:=Er rest (ps++[q]) i1 p1 h1 (λs hs=>ho s (.tail _ hs)) hp;refine⟨i2,p2,?_,by rw[ea];exact h2⟩;rw[acD,e];exact e2
theorem Ow(ho:∀ s∈zs,eZ s)(hp:zs.Pairwise (λa b=>fD a.1 b.1)):(zs=[]/\uH zs=none) ∨ ∃ i p,uH zs=some (i,p)/\mL zs i p:=by
 cases zs with
 | nil=>exact .inl ⟨rfl,rfl⟩
 | cons q rest =>
  right;have h0:mL [q] [] q:=⟨trivial,λs hs=>by
   have:s=q:=by simpa using hs
   subst this;exact ho s (.head _),λn=>rfl,⟨by simp,λx hx=>by
    have:x=q.1:=by simpa using hx
    subst this;exact fD.refl _⟩,⟨by simp,λx hx=>by
    have:x=q.2:=by simpa using hx
    subst this;exact fE.refl _⟩,by simp⟩
  obtain⟨i,p,e,h⟩:=Er rest [q] [] q h0 (λs hs=>ho s (.tail _ hs)) hp;exact⟨i,p,e,h⟩
noncomputable def lg(as:List S2):List S2:=gP (uH (bz (as.map λs=>cR s.1) (none,none) as))
structure Ox(as gs:List S2):Prop where
 ap:Apart gs
 ok:∀ s∈gs,eZ s
 held:∀ n,(gs.any λs=>hs s n)=as.any λs=>hs s n
 nil:gs=[]↔as=[]
 lo:∀ g,gs.head?=some g->gO (as.map (·.1)) g.1
 hi:∀ g,gs.getLast?=some g->jk (as.map (·.2)) g.2
theorem Oy(ho:∀ s∈as,eZ s):Ox as (lg as):=by
 have pm:(bz (as.map λs=>cR s.1) (none,none) as).Perm as:=mK;have sr:=Ed (kis:=as.map λs=>cR s.1) (d:=((none,none):S2)) (as:=as) (f:=λs=>cR s.1) rfl;unfold lg;generalize bz (as.map λs=>cR s.1) (none,none) as=zs at pm sr ⊢;rcases Ow (λs hs=>ho s (pm.mem_iff.mp hs)) (sr.imp λh=>Oq.mp h) with ⟨rfl,e⟩|⟨i,p,e,h⟩
 .have:as=[]:=by simpa using pm.symm.eq_nil
  subst this;rw[e];exact⟨trivial,λs hs=>(nomatch hs),λ_=>rfl,Iff.rfl,λg hg=>(nomatch hg),λg hg=>(nomatch hg)⟩
 .rw[e];have Oz:∀ n,(zs.any λs=>hs s n)=as.any λs=>hs s n:=λn=>by rw[aaH,ZE,ZE];exact⟨λ⟨x,hx,q⟩=>⟨x,pm.mem_iff.mp hx,q⟩,λ⟨x,hx,q⟩=>⟨x,pm.mem_iff.mpr hx,q⟩⟩
  refine⟨h.ap,h.ok,λn=>(h.held n).trans (Oz n),?_,λg hg=>?_,λg hg=>?_⟩
  .constructor
   .intro z;simp[gP] at z
   .intro z;subst z;have z:=pm.eq_nil;subst z;cases e
  .have e2:((i++[p]).headD p)=g:=by show ((i++[p]).headD p)=g;have:(i++[p]).head?=some g:=hg;rw[List.headD_eq_head?_getD,this];rfl
   have z:=h.lo;rw[e2] at z;exact⟨((pm.map _).mem_iff).mp z.1,λx hx=>z.2 x ((pm.map _).mem_iff.mpr hx)⟩
  .have e2:p=g:=by have:(i++[p]).getLast?=some g:=hg;rw[List.getLast?_concat] at this;exact Option.some.inj this
   subst e2;have z:=h.hi;exact⟨((pm.map _).mem_iff).mp z.1,λx hx=>z.2 x ((pm.map _).mem_iff.mpr hx)⟩
open PySem in
def aP(H:Hp):List V->List S2->Prop
 | [],[]=>True
 | v::vs,s::ss=>aG H v s.1 s.2/\aP H vs ss
 | _,_=>False
section
theorem aP.same(e:ak H H1):∀ {vs:List V} {ss:List S2},aP H vs ss->aP H1 vs ss
 | [],[],_=>trivial
 | _::_,_::_,h=>⟨h.1.same e,aP.same e h.2⟩
 | [],_::_,h=>h.elim
 | _::_,[],h=>h.elim
theorem aG.put(h:aG H v a b)(hl:H l=some (.lst ys)):aG (upd H l o) v a b:=by obtain⟨p,e,h⟩:=h;exact⟨p,e,by rw[aC (tE h hl λz=>nomatch z)];exact h⟩
theorem aP.put(hl:H l=some (.lst ys)):∀ {vs:List V} {ss:List S2},aP H vs ss->aP (upd H l o) vs ss
 | [],[],_=>trivial
 | _::_,_::_,h=>⟨h.1.put hl,aP.put hl h.2⟩
 | [],_::_,h=>h.elim
 | _::_,[],h=>h.elim
theorem aP.len:∀ {vs:List V} {ss:List S2},aP H vs ss->vs.length=ss.length
 | [],[],_=>rfl
 | _::_,_::_,h=>by simp[aP.len h.2]
 | [],_::_,h=>h.elim
 | _::_,[],h=>h.elim
theorem aP.get:∀ {vs:List V} {ss:List S2} {i:Nat} {v:V},aP H vs ss->vs[i]?=some v->∃ s,ss[i]?=some s/\aG H v s.1 s.2
 | [],[],_,_,_,e=>by simp at e
 | _::_,s::_,0,_,h,e=>by simp at e;subst e;exact⟨s,rfl,h.1⟩
 | _::_,_::_,i+1,_,h,e=>by obtain⟨s,a,b⟩:=aP.get (i:=i) h.2 (by simpa using e);exact⟨s,by simpa using a,b⟩
 | [],_::_,_,_,h,_=>h.elim
 | _::_,[],_,_,h,_=>h.elim
theorem aP.app:∀ {vs ws:List V} {ss ts:List S2},aP H vs ss->aP H ws ts->aP H (vs++ws) (ss++ts)
 | [],_,[],_,_,h=>h
 | _::_,_,_::_,_,h,h'=>⟨h.1,aP.app h.2 h'⟩
 | [],_,_::_,_,h,_=>h.elim
 | _::_,_,[],_,h,_=>h.elim
theorem aP.snoc_inv:∀ {vs:List V} {ss:List S2} {s:S2},aP H vs (ss++[s])->∃ ws v,vs=ws++[v]/\aP H ws ss/\aG H v s.1 s.2
 | [],[],_,h=>h.elim
 | [],_::_,_,h=>h.elim
 | v::[],[],s,h=>⟨[],v,rfl,trivial,h.1⟩
 | _::_::_,[],_,h=>h.2.elim
 | v::vs,t::ss,s,h=>by obtain⟨ws,u,e,a,b⟩:=aP.snoc_inv (vs:=vs) (ss:=ss) h.2;exact⟨v::ws,u,by rw[e];rfl,⟨h.1,a⟩,b⟩
theorem aP.sort(h:aP H xs as):aP H (bz kis .non xs) (bz kis (none,none) as):=by
 have hl:=h.len;have hp:=(mI (n:=xs.length) (jX kis)).1;unfold bz;rw[<- hl];have gen:∀ l:List Nat,(∀ i∈l,i<xs.length)->aP H (l.map λi=>xs.getD i .non) (l.map λi=>as.getD i (none,none)):=by
  intro l
  induction l with
  | nil=>intro _;exact trivial
  | cons i l ih =>
   intro q;have hi:=q i (.head _);obtain⟨s,es,hs⟩:=h.get (Yx hi);refine⟨?_,ih λj hj=>q j (.tail _ hj)⟩;show aG H (xs.getD i .non) (as.getD i (none,none)).1 (as.getD i (none,none)).2;rw[Yv,Yv,es,Yx hi];exact hs
 exact gen _ λi hi=>by simpa using hp.mem_iff.mp hi
noncomputable def uI(H:Hp):V->V
 | .ref p=>(match H p with|some (.tup (x::_))=>x|_=>.non)
 | _=>.non
noncomputable def uJ(H:Hp):V->V
 | .ref p=>(match H p with|some (.tup (_::x::_))=>x|_=>.non)
 | _=>.non
theorem aG.fst(h:aG H v a b):uI H v=ev a:=by obtain⟨p,rfl,h⟩:=h;simp only[uI,h]
theorem aG.snd(h:aG H v a b):uJ H v=ev b:=by obtain⟨p,rfl,h⟩:=h;simp only[uJ,h]
theorem aP.fst:∀ {vs:List V} {ss:List S2},aP H vs ss->vs.map (uI H)=ss.map λs=>ev s.1
 | [],[],_=>rfl
 | _::_,_::_,h=>by rw[YW,YW,h.1.fst,aP.fst h.2]
 | [],_::_,h=>h.elim
 | _::_,[],h=>h.elim
theorem aP.snd:∀ {vs:List V} {ss:List S2},aP H vs ss->vs.map (uJ H)=ss.map λs=>ev s.2
 | [],[],_=>rfl
 | _::_,_::_,h=>by rw[YW,YW,h.1.snd,aP.snd h.2]
 | [],_::_,h=>h.elim
 | _::_,[],h=>h.elim
theorem aP.mem:∀ {vs:List V} {ss:List S2} {v:V},aP H vs ss->v∈vs->∃ s∈ss,aG H v s.1 s.2:=λh hv=>by obtain⟨i,hi,e⟩:=aeq.mp hv;obtain⟨s,es,q⟩:=aP.get h (by rw[Yx hi,e]);exact⟨s,Y6 es,q⟩
theorem yf:∀ (es:List En),n6 .non (es.map ev)=decide ((none:En)∈es)
 | []=>rfl
 | e::es=>by
  have ih:=yf es;unfold n6 at ih ⊢;rw[YW,ZV,ih];rcases e with _|x
  .simp[ev,i9]
  .simp[ev,i9]
theorem yg:∀ (es:List En),(es.map ev).all i8=true
 | []=>rfl
 | e::es=>by rw[YW,aeU,yg es];rcases e with _|x<;>rfl
theorem yh:∀ {es:List En},(none:En)∉es->es.map ev=(es.filterMap id).map V.int
 | [],_=>rfl
 | e::es,h=>by
  rcases e with _|x
  .exact absurd (.head _) h
  .have ih:=yh (es:=es) λz=>h (.tail _ z);rw[YW,ih];rfl
theorem Es(h:(none:En)∉es)(h0:es≠[]):es.filterMap id≠[]:=by
 cases es with
 | nil=>exact absurd rfl h0
 | cons e r =>
  rcases e with _|x
  .exact absurd (.head _) h
  .intro z;simp at z
theorem Et(h:(none:En)∉es)(h0:es≠[]):gO es (some (jV (es.filterMap id))):=by
 have mem:∀ x,some x∈es↔x∈es.filterMap id:=λx=>by simp
 have a7:es.filterMap id≠[]:=by
  cases es with
  | nil=>exact absurd rfl h0
  | cons e r =>
   rcases e with _|x
   .exact absurd (.head _) h
   .intro z;simp at z
 obtain⟨m1,m2⟩:=DK a7;refine⟨(mem _).mpr m1,λx hx=>?_⟩;rcases x with _|x
 .exact absurd hx h
 .exact .inr ⟨_,_,rfl,rfl,m2 x ((mem x).mp hx)⟩
theorem Eu(h:(none:En)∉es)(h0:es≠[]):jk es (some (jf (es.filterMap id))):=by
 have mem:∀ x,some x∈es↔x∈es.filterMap id:=λx=>by simp
 have a7:es.filterMap id≠[]:=by
  cases es with
  | nil=>exact absurd rfl h0
  | cons e r =>
   rcases e with _|x
   .exact absurd (.head _) h
   .intro z;simp at z
 obtain⟨m1,m2⟩:=DJ a7;refine⟨(mem _).mpr m1,λx hx=>?_⟩;rcases x with _|x
 .exact absurd hx h
 .exact .inr ⟨_,_,rfl,rfl,m2 x ((mem x).mp hx)⟩
theorem uK(h:(none:En)∈es):gO es none:=⟨h,λ_ _=>.inl rfl⟩
theorem uL(h:(none:En)∈es):jk es none:=⟨h,λ_ _=>.inl rfl⟩
theorem OA(a b:En):gO [a,b] (oG a b):=by
 rcases a with _|x<;>rcases b with _|y
 .exact uK (by simp)
 .exact uK (by simp)
 .exact uK (by simp)
 .exact Et (es:=[some x,some y]) (by simp) (by simp)
theorem OB(a b:En):jk [a,b] (iz a b):=by
 rcases a with _|x<;>rcases b with _|y
 .exact uL (by simp)
 .exact uL (by simp)
 .exact uL (by simp)
 .exact Eu (es:=[some x,some y]) (by simp) (by simp)
def yi(H:Hp)(v:V)(as:List S2):Prop:=(as=[]->v = .non)/\(as≠[]->∃ lo hi,aG H v lo hi/\gO (as.map (·.1)) lo/\jk (as.map (·.2)) hi)
theorem yi.two(h:yi H v [p,q]):aG H v (jY p q).1 (jY p q).2:=by obtain⟨lo,hi,a,b,c⟩:=h.2 (by simp);have e1:lo=oG p.1 q.1:=b.uniq (OA p.1 q.1) λ_=>Iff.rfl;have e2:hi=iz p.2 q.2:=c.uniq (OB p.2 q.2) λ_=>Iff.rfl;rw[e1,e2] at a;exact a
theorem filter_all(l:List V):l.filter (λ_=>true)=l:=Z9.mpr λ_ _=>rfl
open PySem
theorem Ew:∀ (zs:List S2) (R:qA),(gP (zs.foldl dX R)).length<=(gP R).length+zs.length
 | [],R=>by simp
 | z::zs,R=>by
  rw[acD];have h:=Ew zs (dX R z);have h2:(gP (dX R z)).length<=(gP R).length+1:=by
   rcases R with _|⟨i,p⟩
   .simp[dX,gP]
   .simp only[dX];split<;>simp[gP]
  rw[Zr];lia
theorem OC(as:List S2):(lg as).length<=as.length:=by unfold lg uH;have h:=Ew (bz (as.map λs=>cR s.1) (none,none) as) none;rw[oE] at h;have e:(gP none).length=0:=rfl;lia
end
end Gz
namespace Gz
open PySem PySem.Spec PyProof.Rows L2
section
end
abbrev W2:=Option S2
def fF(H:Hp)(v:V):W2->Prop
 | none=>v = .non
 | some s=>aG H v s.1 s.2
theorem fF.same(h:fF H v w)(s:ak H H'):fF H' v w:=by
 cases w with
 | none=>exact h
 | some a=>exact aG.same h s
end Gz
namespace Gz
open PySem L2 PySem.W PySem.Spec PyProof.Rows
def Bt(n:Nat)(x:Int):Prop:=aa6 x<=n
theorem Bt.add(h:Bt n x)(h':Bt n y):Bt (n+1) (x+y):=by
 have:=agZ h h'
 rwa [Nat.max_self] at this
theorem Bt.mul(h:Bt n x)(h':Bt m y):Bt (n+m) (x * y):=ag0 h h'
theorem Bt.up(h:Bt n x)(hm:n<=m):Bt m x:=YE h hm
theorem Bt.small(h1 : -(2 ^ 64)<x)(h2:x<2 ^ 64):Bt 64 x:=PySem.intBits_le_64 h1 h2
def oI(i j:Int):Prop:=Bt 40000000 i/\Bt 40000000 j
theorem oI.ok(h:oI i j):IntMulOk i j:=agm h.1 h.2 (by decide)
theorem OD:ba X (abm .Mult) (rI oI λi j=>.int (i * j)):=tT λ_ _ _ _ _ _ _ hc q=>mul_int q hc.ok
def gx(ns:List Int):Prop:=ns.length<=63/\∀ x∈ns,Bt 1048576 x
theorem weigh:∀ (ns:List Int) (x:Int),x∈ns->aa6 x<=aa8 (ns.map aa0)
 | [],x,h=>by simp at h
 | y::ns,x,h=>by
  have e:aa8 ((y::ns).map aa0)=(if y == 0 then 0 else y.natAbs.log2+1)+1+aa8 (ns.map aa0):=by rw[YW];simp only[aa8,aet]
  rw[e];rcases YV.mp h with rfl|h
  .unfold aa6;lia
  .have:=weigh ns x h;lia
theorem OE{ns:List Int}(h:agA [PySem.W.WData.list (ns.map aa0)]=true):∀ x∈ns,Bt 1048576 x:=by
 intro x hx;have h1:ace (PySem.W.WData.list (ns.map aa0))=true:=by
  have:(ace (PySem.W.WData.list (ns.map aa0)) && true)=true:=h
  rwa [Bool.and_true] at this
 unfold ace at h1;rw[aak] at h1;have h2:=of_decide_eq_true h1.2;have h3:=weigh ns x hx;simp only[aet] at h2;unfold Bt;lia
theorem OF{l:aec}{k:Nat}{q:Zy}{loose:List Str}{XP:(Str->Option YB)->aa4->Prop}{YP:aaa->aa4->Prop}{d:DefRec}{K:Params->Yu}{CX:aaa->gp}{sp:aaa->Sp}{x:Str}
 (most:l.most=some 63) (plain:d.params.defaults=[]) (room:bD k af2)
 (OG:∀ (w:aaa) (h:aa4),YP w h->(K w.params).In h)
 (F:∀ (w:aaa) (mg:Str->Option YB) (fa:YN) (h:aa4),(K w.params).In h->h.Ns Y9 mg->mg d.name=some (.ref fa) ->
   ∃ fd:abD,(∀ (s:YK) (u:YB),afg s fd ⟨[u],[]⟩ [(x,u)]) /\
    ∀ base:aa4,(K w.params).In base->base.Ns Y9 mg->dC l.prog w (K w.params) mg base (CX w) k fa fd [x] (sp w))
 (law:∀ (w:aaa) (H:Hp) (a:YN) (ns:List Int),gx ns->ah (K w.params) H a (ns.map V.int)->sp w [.ref a] H (λv _=>v = .bl true) λ_ _ _=>False)
 (calm:∀ (w:aaa) (H:Hp) (s:YK) (e:YB) (s':YK),CX w [] H s (λ_ _ _=>False) e s'->False) :
 agI q loose XP YP l.row.toRowW d [] (λf vs=>PySem.call f vs):=by
 intro w t₀ t mg mb G Y f ob pm cd doc dV kV look data code defs at_ gens args vals as pre lay _ well _;have e1:dV = .none:=Dflts.none defs plain;have e2:kV = .none:=Dflts.noKw defs;cases e1;cases e2;obtain⟨a,vs,ns,e3,e4,obj,are,len⟩:=xa.LS most pre well;cases e3;cases e4;have KX:=OG w _ Y;obtain⟨fd,bind,ok⟩:=F w mg f _ KX G.T.g at_;have run:=LX KX G.T.g G.T.b G.T.builtins G.T.nolimit gens obj are (YE len (by decide)) room ok bind
  (λH _ S=>law w H a ns ⟨len,OE lay⟩ S) λH e s'=>calm w H t e s'
 refine enter_call (abM run ?_);rintro r s' ⟨rfl,old,os,bare⟩;exact⟨.inl ⟨.bool true,.bool true,[],rfl,λ_=>rfl,.bool true,xa.LW l _,λ_=>⟨List.Pairwise.nil,λ_ z=>(nomatch z)⟩⟩,old,os,bare⟩
noncomputable def qB(ns:List Int)(k:Int):Int:=if 0<(ns.length:Int) then ns.getD (k % (ns.length:Int)).toNat 0 else 0
theorem OH(h:gx ns)(k:Int):Bt 1048576 (qB ns k):=by
 unfold qB;split
 .rw[Yv];cases e:ns[(k % (ns.length:Int)).toNat]? with
  | none=>exact (Bt.small (by decide) (by decide)).up (by decide)
  | some n=>exact h.2 _ (Y6 e)
 .exact (Bt.small (by decide) (by decide)).up (by decide)
theorem OI{ns:List Int}{k:Int}(h:0<(ns.length:Int)):cE (ns.map V.int) (k % (ns.length:Int))=some (.int (qB ns k)):=by
 have h1:=age k (show (ns.length:Int)≠0 by lia);have h2:=aeZ k h;unfold qB;rw[if_pos h];have ek:k % (ns.length:Int)=(((k % (ns.length:Int)).toNat:Nat):Int):=by lia
 refine (congrArg (cE _) ek).trans (cF ?_);rw[YF,Yv,Yx (by lia)];rfl
theorem Ex(h:x.natAbs<2 ^ 600):Bd 4000 x:=Bd.up (n:=600) h (by decide)
theorem mO(h:x.natAbs<2 ^ 600)(h':y.natAbs<2 ^ 600):ql x y:=⟨Ex h,Ex h'⟩
theorem aH(I:L2.St->Hp->Prop)(h1:∀ N:L2.St->Hp->Prop,(∀ σ H,I σ H->N σ H)->a { D with nx:=N } σ H)(h2:∀ R:TS,R=b->∀ σ H,I σ H->R D σ H):tL a b D σ H:=h1 _ (h2 _ rfl)
noncomputable def pre(f:P2->Int)(ps:List P2)(i:Nat):Int:=((ps.take i).map f).sum
theorem fT(f:P2->Int)(ps:List P2)(h:i<ps.length):pre f ps (i+1)=pre f ps i+f (aB ps i):=by unfold pre aB;rw[aah,Zd,agf,Yv,Yx h];simp only[ae0,YW,acb,agJ,ag1,Int.add_zero,abF]
noncomputable def bA(ps:List P2)(i j:Nat):Int:=if i<=j then pre (·.2) ps j-pre (·.2) ps i else pre (·.1) ps j-pre (·.1) ps i
def cS(ps:List P2):Prop:=∀ p∈ps,p.1<=p.2
theorem Ey(h:cS ps)(i:Nat):∀ n,i+n<=ps.length->pre (·.1) ps (i+n)-pre (·.1) ps i<=pre (·.2) ps (i+n)-pre (·.2) ps i
 | 0,_=>by simp
 | n+1,hn=>by have ih:=Ey h i n (by lia);rw[show i+(n+1)=(i+n)+1 by lia,fT _ ps (by lia),fT _ ps (by lia)];have:=h _ (mH (ps:=ps) (i:=i+n) (by lia));lia
theorem oJ(h:cS ps)(gv:i<=j)(hj:j<=ps.length):pre (·.1) ps j-pre (·.1) ps i<=pre (·.2) ps j-pre (·.2) ps i:=by
 have:=Ey h i (j-i) (by lia)
 rwa [show i+(j-i)=j by lia] at this
theorem OJ(h:cS ps)(hi:i<=ps.length)(hj:j<=ps.length)(hk:k<=ps.length):bA ps i j<=bA ps i k+bA ps k j:=by have a:=λh'=>oJ h (i:=i) (j:=j) h' hj;have b:=λh'=>oJ h (i:=j) (j:=i) h' hi;have c:=λh'=>oJ h (i:=i) (j:=k) h' hk;have d:=λh'=>oJ h (i:=k) (j:=i) h' hi;have e:=λh'=>oJ h (i:=j) (j:=k) h' hk;have f:=λh'=>oJ h (i:=k) (j:=j) h' hj;unfold bA;split<;>split<;>split<;>lia
noncomputable def part(ps:List P2)(i j k:Nat):Int:=if i<j then pre (·.2) ps (min i j+k)-pre (·.2) ps i else pre (·.1) ps j-pre (·.1) ps (min i j+k)
end Gz
namespace L2
open PySem PySem.Spec PyProof.Rows
section
variable{κ:Type}[DecidableEq κ]
noncomputable def cG(kvs:List (κ × V))(k:κ):Option V:=(kvs.find? λkv=>decide (kv.1=k)).map (·.2)
noncomputable def putK(kvs:List (κ × V))(k:κ)(v:V):List (κ × V) :=
 if (kvs.any λkv=>decide (kv.1=k))=true then kvs.map (λkv=>if kv.1=k then (kv.1,v) else kv) else kvs++[(k,v)]
noncomputable def fU(kvs:List (κ × V))(k:κ):List (κ × V):=kvs.filter λkv=>decide (kv.1≠k)
theorem uM{p:κ × V}{r:List (κ × V)}{k:κ}(e:p.1=k):cG (p::r) k=some p.2:=by simp[cG,aai,e]
theorem uN{p:κ × V}{r:List (κ × V)}{k:κ}(e:¬ p.1=k):cG (p::r) k=cG r k:=by simp[cG,aai,e]
theorem Ez(k:κ):∀ kvs:List (κ × V),(kvs.any λkv=>decide (kv.1=k))=(cG kvs k).isSome
 | []=>rfl
 | p::r=>by
  rw[ZV];by_cases e:p.1=k
  .simp only[uM e,decide_eq_true e,Bool.true_or,Option.isSome_some]
  .rw[uN e,decide_eq_false e,agK];exact Ez k r
theorem EA(kvs:List (κ × V))(k:κ)(v:V):(putK kvs k v).length<=kvs.length+1:=by
 unfold putK;split
 .rw[Yw];omega
 .rw[YJ,Zr,abh];omega
theorem eO.yj(r:eO o u):o.isSome=u.isSome:=by
 cases o with
 | none=>cases u with
  | none=>rfl
  | some _=>exact (show False from r).elim
 | some _=>cases u with
  | none=>exact (show False from r).elim
  | some _=>rfl
theorem KV.val(r:KV kvs vs)(k:κ):eO (cG kvs k) (afo vs k):=by
 unfold KV at r
 induction r with
 | nil=>exact aaZ
 | @cons p q ps qs h t ih =>
  obtain⟨h1,h2⟩:=h;by_cases e:p.1=k
  .have e':q.1=k:=h1.symm.trans e;have b:afo (q::qs) k=some q.2:=by simp[afo,aai,e']
   rw[uM e,b];exact h2
  .have e':¬ q.1=k:=λz=>e (h1.trans z);have b:afo (q::qs) k=afo qs k:=by simp[afo,aai,e']
   rw[uN e,b];exact ih
theorem KV.any(r:KV kvs vs)(k:κ):(kvs.any λkv=>decide (kv.1=k))=vs.any λkv=>decide (kv.1=k):=by
 unfold KV at r
 induction r with
 | nil=>rfl
 | cons h t ih=>rw[ZV,ZV,ih,h.1]
theorem KV.oM(r:KV kvs vs)(k:κ)(ry:RelV y u) :
 KV (kvs.map λkv=>if kv.1=k then (kv.1,y) else kv) (vs.map λkv=>if kv.1=k then (kv.1,u) else kv):=by
 unfold KV at r ⊢
 induction r with
 | nil=>exact .nil
 | @cons p q ps qs h t ih =>
  rw[YW,YW];refine .cons ?_ ih;obtain⟨h1,h2⟩:=h;by_cases e:p.1=k
  .rw[if_pos e,if_pos (h1.symm.trans e)];exact⟨h1,ry⟩
  .rw[if_neg e,if_neg (λz=>e (h1.trans z))];exact⟨h1,h2⟩
theorem KV.put(r:KV kvs vs)(k:κ)(ry:RelV y u):KV (putK kvs k y) (stored vs k u):=by
 unfold putK stored;rw[r.any k];by_cases e:(vs.any λkv=>decide (kv.1=k))=true
 .rw[if_pos e,if_pos e];exact r.oM k ry
 .rw[if_neg e,if_neg e];exact Paired.snoc r ⟨rfl,ry⟩
theorem KV.length(r:KV kvs vs):kvs.length=vs.length:=Paired.length r
theorem OL(kvs:List (κ × V))(k:κ):(fU kvs k).length<=kvs.length:=Ze _ _
end
theorem uO(r:RelV (kV k) u):(ee P w).is k u=true:=by
 cases k with
 | inl i=>obtain⟨t,e⟩:=(show ∃ t,u=aaX i t from r);subst e;exact Ko P w i t
 | inr x=>obtain⟨t,e⟩:=(show ∃ t,u=Value.str x t from r);subst e;exact Kp P w x t
theorem EB:∀ {ks:List Key} {us:List YB},Vals (ks.map kV) us->ItemsAre (ee P w) ks us
 | [],_,r=>by rw[acb] at r;cases r;exact .nil
 | k::ks,_,r=>by
  rw[YW] at r;cases r with
  | cons h t=>exact .cons (uO h) (EB t)
abbrev KT(H:Hp):List (List Key × V)->List (List Key × YN × YB)->Prop:=agU λp q=>p.1=q.1/\H q.2.1=some (.tup (p.1.map kV))/\RelV p.2 q.2.2
theorem KT.val(r:KT H kvs xs)(k:List Key):eO (cG kvs k) ((aeK xs k).map (·.2)):=by
 induction r with
 | nil=>exact aaZ
 | @cons p q ps qs h t ih =>
  obtain⟨h1,_,h2⟩:=h;by_cases e:p.1=k
  .have e':q.1=k:=h1.symm.trans e;have b:aeK (q::qs) k=some q.2:=by simp[aeK,aai,e']
   rw[uM e,b];exact h2
  .have e':¬ q.1=k:=λz=>e (h1.trans z);have b:aeK (q::qs) k=aeK qs k:=by simp[aeK,aai,e']
   rw[uN e,b];exact ih
theorem KT.oM(r:KT H kvs xs)(k:List Key)(ry:RelV y u) :
 KT H (kvs.map λkv=>if kv.1=k then (kv.1,y) else kv) (xs.map (putAt k u)):=by
 induction r with
 | nil=>exact .nil
 | @cons p q ps qs h t ih =>
  rw[YW,YW];refine .cons ?_ ih;obtain⟨h1,h2,h3⟩:=h;unfold putAt;by_cases e:p.1=k
  .rw[if_pos e,if_pos (h1.symm.trans e)];exact⟨h1,h2,ry⟩
  .rw[if_neg e,if_neg (λz=>e (h1.trans z))];exact⟨h1,h2,h3⟩
theorem KT.put(r:KT H kvs xs)(k:List Key)(hb:H b=some (.tup (k.map kV)))(ry:RelV y u) :
 KT H (putK kvs k y) (storedH xs k b u):=by
 have e:(kvs.any λkv=>decide (kv.1=k))=(aeK xs k).isSome:=by rw[Ez,(r.val k).yj,afp]
 unfold putK storedH;rw[e];by_cases q:(aeK xs k).isSome=true
 .rw[if_pos q,if_pos q];exact r.oM k ry
 .rw[if_neg q,if_neg q];exact Paired.snoc r ⟨rfl,hb,ry⟩
theorem KT.keeps(r:KT H kvs xs)(ht:∀ b ys,H b=some (.tup ys)->H' b=some (.tup ys)):KT H' kvs xs :=
 Paired.wk r λ_ _ z=>⟨z.1,ht _ _ z.2.1,z.2.2⟩
section
theorem EC(ok:bN P w H h)(e:Rd H a u):bw P w H h a u:=e.ok ok
theorem qC(ok:bN P w H h)(e:Rd H a (.dK kvs)):kvs.length<=Y0/\(a == aal)=false/\∃ vs,KV kvs vs/\h.DictOf (ee P w) a vs :=
 show bw P w H h a (.dK kvs) from EC ok e
theorem OM(ok:bN P w H h)(e:H a=some (.dK kvs)):kvs.length<=Y0/\(a == aal)=false/\∃ vs,KV kvs vs/\h.DictOf (ee P w) a vs:=qC ok (.inl e)
theorem qD(ok:bN P w H h)(e:H a=some (.tup (ks.map kV))):(adb (ee P w)).is h ks a:=by
 obtain⟨_,ai,r,o,h1,h2,n,h3⟩:=(show bw P w H h a (.tup (ks.map kV)) from ok a _ e)
 exact⟨o,ai.toArray,n,h1,h2,h3,by simpa using EB r⟩
theorem qE(ok:bN P w H h)(e:Rd H a (.dT kvs)):kvs.length<=Y0/\(a == aal)=false /\
 ∃ xs,KT H kvs xs/\h.DictOfH (adb (ee P w)) a xs:=by
 obtain⟨z,y,xs,r,o,es,ep,h1,h2,h3,h4,h5⟩:=(show bw P w H h a (.dT kvs) from EC ok e)
 refine⟨z,y,xs,r,o,es,ep,h1,h2,h3,h4,λx hx=>?_,h5⟩;have all:∀ {l:List (List Key × V)} {m:List (List Key × YN × YB)},KT H l m->∀ x∈m,(adb (ee P w)).is h x.1 x.2.1:=by
  intro l m q
  induction q with
  | nil=>intro x hx;exact nomatch hx
  | @cons p q ps qs hq t ih =>
   intro x hx;rcases YV.mp hx with e|hx
   .subst e;exact qD ok (by rw[<- hq.1];exact hq.2.1)
   .exact ih x hx
 exact all r x hx
theorem uP(ok:bN P w H h)(e:H a=some (.dT kvs)):kvs.length<=Y0/\(a == aal)=false /\
 ∃ xs,KT H kvs xs/\h.DictOfH (adb (ee P w)) a xs:=qE ok (.inl e)
end
def eJ(H:Hp)(a:YN)(y:V)(r:Option V):Prop :=
 (∃ kvs k,Rd H a (.dK kvs)/\y=kV k/\r=cG kvs k) ∨ ∃ kvs k b,Rd H a (.dT kvs)/\y = .ref b/\H b=some (.tup (k.map kV))/\r=cG kvs k
def oN(H:Hp)(a:YN)(y v:V)(H':Hp):Prop :=
 (∃ kvs k,H a=some (.dK kvs)/\y=kV k/\kvs.length<Y0/\H'=upd H a (.dK (putK kvs k v))) ∨
 ∃ kvs k b,H a=some (.dT kvs)/\y = .ref b/\H b=some (.tup (k.map kV))/\kvs.length<Y0/\H'=upd H a (.dT (putK kvs k v))
theorem eJ.t(e:H a=some (.dT kvs))(eb:H b=some (.tup (k.map kV))):eJ H a (.ref b) (cG kvs k):=.inr ⟨kvs,k,b,.inl e,rfl,eb,rfl⟩
theorem oN.t(e:H a=some (.dT kvs))(eb:H b=some (.tup (k.map kV)))(hl:kvs.length<Y0) :
 oN H a (.ref b) v (upd H a (.dT (putK kvs k v))):=.inr ⟨kvs,k,b,e,rfl,eb,hl,rfl⟩
section
theorem ON(hu:A.units+1<adi)(I:Inv X pins σ H s)(g:eJ H a y (some v))(ry:RelV y u)(h:∀ w' s',Inv X pins σ H s'->RelV v w'->Q w' s') :
 YT (model X.prog X.w) A (afY (.ref a) u) Q E s:=by
 rcases g with ⟨kvs,k,e,ey,l⟩|⟨kvs,k,b,e,ey,eb,l⟩
 .subst ey;obtain⟨z,hd,vs,rel,dd⟩:=qC I.ao e;obtain⟨w',hw,ie⟩:=eO.some_of (v:=v) (o:=afo vs k) (by rw[l];exact rel.val k);exact wpAny_getItem_of (uO ry) dd.mapOf hw (h w' _ (I.tok _) ie)
 .subst ey;cases (show u=Y7 b from ry);obtain⟨z,hd,xs,rel,dd⟩:=qE I.ao e;obtain⟨w',hw,ie⟩:=eO.some_of (v:=v) (o:=(aeK xs k).map (·.2)) (by rw[l];exact rel.val k);obtain⟨p,hp,eK⟩:=Zh.mp hw;refine wpAny_getItem_heap (aaS hu) (qD I.ao eb) dd hp ?_;rw[eK];exact h w' _ (I.tok _) ie
theorem OO(hu:A.units+1<adi)(I:Inv X pins σ H s)(g:eJ H a y o)(ry:RelV y u)(h:∀ s',Inv X pins σ H s'->Q (.bool (!o.isSome)) s') :
 YT (model X.prog X.w) A (Z5 .NotIn u (.ref a)) Q E s:=by
 rcases g with ⟨kvs,k,e,ey,l⟩|⟨kvs,k,b,e,ey,eb,l⟩
 .subst ey;obtain⟨z,hd,vs,rel,dd⟩:=qC I.ao e;refine wpAny_notIn_of (uO ry) hd dd.mapOf ?_;rw[<- (rel.val k).yj,<- l];exact h _ (I.tok _)
 .subst ey;cases (show u=Y7 b from ry);obtain⟨z,hd,xs,rel,dd⟩:=qE I.ao e;refine wpAny_notIn_heap (aaS hu) (qD I.ao eb) hd dd ?_;have q:=(rel.val k).yj;rw[afp] at q;rw[<- q,<- l];exact h _ (I.tok _)
theorem yk(I:Inv X pins σ H s)(mu:pV (H a))(hs:Heap.SameBut a s.heap h')(he:∃ q,h'.get? a=some q)(new:bw X.prog X.w (upd H a ob) h' a ob) :
 Inv X pins σ (upd H a ob) { s with heap:=h',toks:=t' } :=
 I.write (x:=a) (e:=a) mu (.inl rfl) (λb q hb z=>(hs.2 b hb).trans z) he new
theorem ED(z:kvs.length<=Y0)(hd:(a == aal)=false)(rel:KV kvs vs)(dd:h'.DictOf (ee P w) a vs) :
 bw P w H' h' a (.dK kvs):=⟨z,hd,vs,rel,dd⟩
theorem OP(hu:A.units+1<adi)(I:Inv X pins σ H s)(g:oN H a y v H')(ry:RelV y u)(rv:RelV v r)(h:∀ s',Inv X pins σ H' s'->Q () s') :
 YT (model X.prog X.w) A (setItem (.ref a) u r) Q E s:=by
 rcases g with ⟨kvs,k,e,ey,l,eH⟩|⟨kvs,k,b,e,ey,eb,l,eH⟩
 .subst ey eH;obtain⟨z,hd,vs,rel,dd⟩:=OM I.ao e;have hz:vs.length<=Y0:=by rw[<- rel.length];exact z
  have hl:(putK kvs k v).length<=Y0:=by have:=EA kvs k v;omega
  refine wpAny_setItem_pairs (hsz:=hz) (uO ry) dd λh' mP hs=>h _ ?_;have he:∃ q,h'.get? a=some q:=let ⟨q,_,_,hq,_⟩:=mP;⟨q,hq⟩;exact yk I (by rw[e];exact aaZ) hs he (ED hl hd (rel.put k rv) mP)
 .subst ey eH;cases (show u=Y7 b from ry);obtain⟨z,hd,xs,rel,dd⟩:=uP I.ao e;have hz:xs.length<=Y0:=by rw[<- Paired.length rel];exact z
  have hl:(putK kvs k v).length<=Y0:=by have:=EA kvs k v;omega
  refine wpAny_setItem_heap (hsz:=hz) (aaS hu) (qD I.ao eb) dd λh' mP hs=>h _ ?_;obtain⟨q,es,ep,hq,h2,h3,h4,_,h5⟩:=mP;refine yk I (by rw[e];exact aaZ) hs ⟨q,hq⟩ ⟨hl,hd,_,(rel.put k eb rv).keeps λc ys ec=>?_,q,es,ep,hq,h2,h3,h4,h5⟩;rw[aC (tE ec e (λz=>nomatch z))];exact ec
end
def ym(i:ach):Prop:=∀ ov iv,subscripted i false ov iv=operate [ov,iv] (afY ov iv)
theorem OQ{prog:Zy}{w:aaa}{A:aaq}{E:YB->YK->Prop}{s:YK}{env:Env}{value slice:ach}{pos:Pos}{T id:String}{Q:YB->YK->Prop}
 (hl:afh (.type T) "__getitem__" = pure (some (.builtin id))) (hs:ym slice)
 (h:YT (model prog w) A (eval value env) (λo s₁=>YT (model prog w) A (eval slice env) (λi s₂=>s₂.TypeIs o T/\YT (model prog w) A (afY o i) Q E s₂) E s₁) E s) :
 YT (model prog w) A (eval (.Subscript value slice pos) env) Q E s:=by
 refine afi (Zz h (λo s₁ h₁=>Zz h₁ (λi s₂ h₂=>?_) λ_ _ x=>x) λ_ _ x=>x);obtain⟨hT,h₂⟩:=h₂;unfold ady;refine Yt ?_;rw[getitemInPython_of_ne hT.not_modules];refine Yt (acG hT hl ?_);have fin:YT (model prog w) A (subscripted slice false o i) (λr s₃=>YT (model prog w) A (letTemporaryGo value o r >>= λ_=>pure r) Q E s₃) E s₂:=by rw[hs o i];exact wpAny_operating (Zz h₂ (λr s₃ h₃=>Yt (wpAny_letTemporaryGo (Yz h₃))) λ_ _ x=>x)
 first
  | exact Yz (Yt fin)
  | exact Yt (Yz (Yt fin))
  | exact Yt fin
theorem OR(I:Inv X pins σ H s)(g:eJ H a y o):s.TypeIs (.ref a) "dict" := by
 rcases g with ⟨kvs,k,e,_,_⟩|⟨kvs,k,b,e,_,_,_⟩
 .obtain⟨_,_,vs,_,dd⟩:=qC I.ao e;exact dd.typeIs
 .obtain⟨_,_,xs,_,dd⟩:=qE I.ao e;exact dd.typeIs
def yn(td ty:TE):TE:=λσ H Q=>td σ H λx H1=>ty σ H1 λy H2=>∃ a v,x = .ref a/\eJ H2 a y (some v)/\Q v H2
def OS(ty td:TE):TE:=λσ H Q=>ty σ H λy H1=>td σ H1 λx H2=>∃ a o,x = .ref a/\eJ H2 a y o/\Q (.bl o.isSome) H2
def EE(ty td:TE):TE:=λσ H Q=>ty σ H λy H1=>td σ H1 λx H2=>∃ a o,x = .ref a/\eJ H2 a y o/\Q (.bl (!o.isSome)) H2
def EF(td ty tv:TE):TS:=λD σ H=>tv σ H λv H1=>td σ H1 λx H2=>ty σ H2 λy H3=>∃ a H4,x = .ref a/\oN H3 a y v H4/\D.nx σ H4
section
theorem uQ(hu:X.A.units+1<adi)(ho:PE X o td)(hi:PE X i ty)(hs:ym i):PE X (.Subscript o i pos) (yn td ty):=by intro pins s σ H Q I h;refine OQ PySem.F.slot_dict_getitem.lookup hs (aD (ho pins s σ H _ I h) λu s1 ⟨x,H1,I1,rx,q1⟩=>aD (hi pins s1 σ H1 _ I1 q1) λiv s2 zq=>?_);obtain⟨y,H2,I2,ry,a,v,ex,g,q2⟩:=zq;subst ex;obtain rfl:u=Y7 a:=rx;exact⟨OR I2 g,ON hu I2 g ry λw' s3 I3 ie=>⟨v,H2,I3,ie,q2⟩⟩
theorem EG(hu:X.A.units+1<adi)(hi:PE X i ty)(ho:PE X o td):PC X .NotIn i o (EE ty td):=by
 intro pins s σ H Q I h;refine aD (hi pins s σ H _ I h) λiv s1 ⟨y,H1,I1,ry,q1⟩=>aD (ho pins s1 σ H1 _ I1 q1) λu s2 zq=>?_;obtain⟨x,H2,I2,rx,a,ov,ex,g,q2⟩:=zq;subst ex;obtain rfl:u=Y7 a:=rx;exact OO hu I2 g ry λs3 I3=>⟨.bl (!ov.isSome),H2,I3,rfl,q2⟩
theorem EH(hu:X.A.units+1<adi)(ho:PE X o td)(hi:PE X i ty)(hv:PE X value tv)(hs:acw value (some (.Subscript o i pos')) pos.line X.env=pure false) :
 PS X (.Assign [.Subscript o i pos'] value pos) (EF td ty tv):=by
 intro pins s σ H D I h;refine wpAny_Assign_Subscript (aD (hv pins s σ H _ I h) λr s1 ⟨v,H1,I1,rv,q1⟩=>aD (ho pins s1 σ H1 _ I1 q1) λu s2 ⟨x,H2,I2,rx,q2⟩=>aD (hi pins s2 σ H2 _ I2 q2) λiv s3 zq=>?_) hs;obtain⟨y,H3,I3,ry,a,H4,ex,g,q3⟩:=zq;subst ex;obtain rfl:u=Y7 a:=rx;exact OP hu I3 g ry rv λs4 I4=>⟨σ,H4,I4,q3⟩
end
structure M1(X:Cx)(o:ach)(m:Str)(apos:Pos)(e:ach)(cL:Pos):Prop where
 base:abR o m X.env (eval o X.env)=eval o X.env
 few:((aaC cL (Y2 [e] X.env)).all (λx=>!x.1) && (afT cL (adx [] X.env)).all (λx=>x.1.isSome)
  && decide (([e]:List ach).length+([]:List af1).length+(if ([]:List af1).isEmpty then 0 else 1)<30))=true
 line:(apos.endLine == cL.line)=true
 trees:aaC cL (Y2 [e] X.env)=[(false,eval e X.env)]
structure M2(X:Cx)(o:ach)(m:Str)(apos:Pos)(e f:ach)(cL:Pos):Prop where
 base:abR o m X.env (eval o X.env)=eval o X.env
 few:((aaC cL (Y2 [e,f] X.env)).all (λx=>!x.1) && (afT cL (adx [] X.env)).all (λx=>x.1.isSome)
  && decide (([e,f]:List ach).length+([]:List af1).length+(if ([]:List af1).isEmpty then 0 else 1)<30))=true
 line:(apos.endLine == cL.line)=true
 trees:aaC cL (Y2 [e,f] X.env)=[(false,eval e X.env),(false,eval f X.env)]
def EI(H:Hp)(a:YN):Prop:=(∃ kvs,Rd H a (.dK kvs)) ∨ ∃ kvs,Rd H a (.dT kvs)
theorem OT(I:Inv X pins σ H s)(d:EI H a) :
 s.TypeIs (.ref a) "dict" /\ (∀ b,Y7 a = .ref b->∃ ob,s.heap.get? b=some ob/\ob.dict=none)/\(a == aal)=false:=by
 rcases d with ⟨kvs,e⟩|⟨kvs,e⟩
 .obtain⟨_,hd,vs,_,dd⟩:=qC I.ao e;refine⟨dd.typeIs,λb q=>?_,hd⟩;cases q;obtain⟨ob,_,_,h1,h2,_⟩:=dd;exact⟨ob,h1,h2.2.1⟩
 .obtain⟨_,hd,xs,_,dd⟩:=qE I.ao e;refine⟨dd.typeIs,λb q=>?_,hd⟩;cases q;obtain⟨ob,_,_,h1,h2,_⟩:=dd;exact⟨ob,h1,h2.2.1⟩
section
end
section
variable{κ:Type}[DecidableEq κ]
theorem EJ:∀ {l:List κ} {k:κ},l.Nodup->¬ k∈l->(l++[k]).Nodup
 | [],k,_,_=>by simp
 | a::r,k,h,hk=>by
  obtain⟨h1,h2⟩:=ZY.mp h;show (a::(r++[k])).Nodup;refine ZY.mpr ⟨λm=>?_,EJ h2 λm=>hk (YV.mpr (afA m))⟩;rcases YX.mp m with q|q
  .exact h1 q
  .exact hk (YV.mpr (acd (YZ.mp q).symm))
end
end L2
namespace Gz
open PySem PySem.Spec PyProof.Rows L2
def bits(bs:List Int):Prop:=∀ x∈bs,x=0∨x=1
theorem OU(hx:H x=none)(hd:H dx=none)(hn:dx≠x):ak H (upd (upd H dx (.own x)) x (.ins C dx fs)) :=
 (ax hd).trans (ax (by rw[aC (Zt hn)];exact hx))
abbrev Lk:=Option (List Int)
def OV(xs:List YN)(H:Hp)(v:V):Lk->Prop
 | none=>v = .non
 | some bs=>∃ l,v = .ref l/\l∉xs/\H l=some (.lst (bs.map V.int))
abbrev IsL:=OV []
local macro_rules | `(tactic| walk_at "o") => `(tactic| ((try simp only [PySem.Addr] at *); lia))
section
variable{κ:Type}[DecidableEq κ]
noncomputable def fG(xs:List (κ × YN × YB))(k:κ):List (κ × YN × YB):=xs.filter λx=>decide (x.1≠k)
theorem OW{xs:List (κ × YN × YB)}{k:κ}(h:k∉xs.map (·.1)):fG xs k=xs:=by unfold fG;rw[Z9];intro x hx;rw[decide_eq_true_eq];exact λz=>h (YO.mpr ⟨x,hx,z⟩)
theorem EK:∀ {xs:List (κ × YN × YB)} {k:κ} {j:Nat} {p:YN × YB},(xs.map (·.1)).Nodup->xs[j]?=some (k,p)->xs.eraseIdx j=fG xs k
 | [],_,_,_,_,h=>by simp at h
 | x::r,k,0,p,hn,h=>by
  rw[YW,ZY] at hn;simp at h;subst h;have e:fG ((k,p)::r) k=fG r k:=by unfold fG;rw[Zs,if_neg (by simp)]
  rw[e,OW hn.1];rfl
 | x::r,k,j+1,p,hn,h=>by
  rw[YW,ZY] at hn;rw[aa7] at h;have ne:¬ x.1=k:=λz=>hn.1 (z ▸ YO.mpr ⟨_,Y6 h,rfl⟩);have e:fG (x::r) k=x::fG r k:=by unfold fG;rw[Zs,if_pos (by simpa using ne)]
  rw[e,adF,EK hn.2 h]
theorem EL(f:α->β):∀ (l:List α) (j:Nat),(l.map f).eraseIdx j=(l.eraseIdx j).map f
 | [],_=>rfl
 | _::_,0=>rfl
 | x::l,j+1=>by rw[YW,adF,EL f l j];rfl
theorem OX{xs:List (κ × YN × YB)}{k:κ}(hn:(xs.map (·.1)).Nodup):((fG xs k).map (·.1)).Nodup:=hn.sublist ((aeL).map _)
end
theorem EM{prog:Zy}{w:aaa}{K:Type}[DecidableEq K]{knd:HeapKind prog w K}{es:Array aa9}{xs:List (K × YN × YB)}{k:K}(he:es.toList=xs.map (afa knd))(h:es.isEmpty=true):aeK xs k=none:=by
 have e:es.size=0:=by simpa using h
 have l:=abj he;have:xs=[]:=Z1.mp (by lia);rw[this];rfl
theorem KT.out(r:KT H kvs xs)(k:List Key):KT H (fU kvs k) (fG xs k):=by
 unfold fU fG
 induction r with
 | nil=>exact .nil
 | @cons p q ps qs h t ih =>
  rw[Zs,Zs];by_cases e:p.1=k
  .rw[if_neg (by simp[e]),if_neg (by simp[h.1.symm.trans e])];exact ih
  .rw[if_pos (by simp[e]),if_pos (by rw[decide_eq_true_eq];exact λz=>e (h.1.trans z))];exact .cons h ih
section
variable{prog:Zy}{w:aaa}{K:Type}[DecidableEq K]{knd:HeapKind prog w K}{A:aaq}{E:YB->YK->Prop}{s:YK}
theorem EN(hu:knd.room A)(gn:knd.is s.heap k a)(hm:s.heap.DictOfH knd d xs)(hsz:xs.length<=Y0)(h0:aeK xs k=none->Q none { s with toks:=s.toks+knd.draws k })(h1:∀ p e,aeK xs k=some p->e.val=p.2->∀ h',h'.DictOfH knd d (fG xs k)->Heap.SameBut d s.heap h'->Q (some e) { s with heap:=h',toks:=s.toks+knd.draws k }):YT (model prog w) A (Builtin.Dict.takeOut d (.ref a)) Q E s:=by
 obtain⟨o,es,ep,ho,hc,hd,he,his,hn⟩:=hm;have yo:es.size<=Y0:=by have e:=abj he;lia
 unfold Builtin.Dict.takeOut
 try with_reducible refine ZN ?_
 refine Yt (knd.pyHash hu gn ?_);refine Yt (wpAny_dictFind_heap (s:={ s with toks:=s.toks+knd.draws k }) hu gn ho hd he his hn (λcg=>?_) λj p hj=>?_)
 .exact Yz (h0 (atKey_none_of_get cg))
 .refine Yt (aaF (s:={ s with toks:=s.toks+knd.draws k }) ho hd ?_);have ej:=entry_at he j;rw[hj] at ej;rw[ej];refine Yt (wpAny_updateDictKeys (hz:=yo) (s:={ s with toks:=s.toks+knd.draws k }) ho hd (Yz (h1 p (afa knd (k,p)) (atKey_of_get hn hj) rfl _ ⟨_,_,ep+1,Zo _ ho (Obj.isFreed_of_dict (aeu hd _)),hc.mapDictKeys _,aeu hd _,?_,?_,OX hn⟩ (ZO ..))))
  .rw[<- EK hn hj];have lt:j<es.size:=by rw[abj he];exact (YC.mp hj).1
   rw[Array.eraseIdxIfInBounds,dif_pos lt,Array.toList_eraseIdx,he,EL]
  .exact λx hx=>knd.keeps (his x (Y8.mp hx).1) ho hd (ZO ..)
theorem OY(hu:knd.room A.in1)(gn:knd.is s.heap k a)(hd:(d == aal)=false)(hm:s.heap.DictOfH knd d xs)(hsz:xs.length<=Y0)(EO:more=[] ∨ ∃ x,more=[x])(h1:∀ p,aeK xs k=some p->∀ h' tk,h'.DictOfH knd d (fG xs k)->Heap.SameBut d s.heap h'->Q p.2 { s with heap:=h',toks:=tk })(h0:aeK xs k=none->∃ x,more=[x]/\∀ tk,Q x { s with toks:=tk }):YT (model prog w) A (call (.builtin "dict.pop") (.ref d :: .ref a::more)) Q E s:=by
 have ha:adM "dict.pop" ⟨.ref d :: .ref a::more,[]⟩:=by
  rcases EO with q|⟨x,q⟩
  .subst q;exact PySem.F.args_dict_pop_2 _ _
  .subst q;exact PySem.F.args_dict_pop_3 _ _ _
 have g:MeetsIn prog w (aas.«dict.pop» ⟨.ref d :: .ref a::more,[]⟩) (λA R s=>knd.room A.in1/\knd.is s.heap k a/\s.heap.DictOfH knd d xs/\(∀ p,aeK xs k=some p->∀ h' tk,h'.DictOfH knd d (fG xs k)->Heap.SameBut d s.heap h'->R (.ok (.ret p.2)) { s with heap:=h',toks:=tk }) /\
  (aeK xs k=none->∃ x,more=[x]/\∀ tk,R (.ok (.ret x)) { s with toks:=tk })):=.of_wp λA R s ⟨hu,gn,hm,h1,h0⟩=>by
  obtain⟨o,es,ep,ho,hc,hda,he,his,hn⟩:=id hm;unfold aas.«dict.pop»;refine Yt ?_;unfold Builtin.Dict.keyAndDefault;refine Yt (aed hm.typeIs ?_);rcases EO with rfl|⟨dflt,rfl⟩
  .show YT _ _ (pure (d,Y7 a,none)) _ _ s;refine Yz ?_;dsimp only;rw[if_neg (show ¬ (keyPart (Y7 a)).isSome=true from λz=>nomatch z)];refine Yt (aaF ho hda (Yt (Yz ?_)));by_cases hemp:es.isEmpty=true
   .rw[if_pos hemp];refine Yt (abn (Yt (Yz ?_)));rw[if_pos (show (none:Option aa9).isNone=true from rfl)];refine Yt (aaV hd ?_);obtain⟨x,ex,hq⟩:=h0 (EM he hemp);cases ex
   .rw[if_neg hemp];refine Yt (EN hu gn hm hsz (λyq=>?_) λp e hp yr h' dd hs=>?_)
    .rw[if_pos (show (none:Option aa9).isNone=true from rfl)];refine Yt (aaV hd ?_);obtain⟨x,ex,hq⟩:=h0 yq;cases ex
    .rw[if_neg (show ¬ (some e).isNone=true from by simp)];exact Yt (abg (Yz ⟨e.val,rfl,by rw[yr];exact h1 p hp h' _ dd hs⟩))
  .show YT _ _ (pure (d,Y7 a,some dflt)) _ _ s;refine Yz ?_;dsimp only;rw[if_neg (show ¬ (keyPart (Y7 a)).isSome=true from λz=>nomatch z)];refine Yt (aaF ho hda (Yt (Yz ?_)));by_cases hemp:es.isEmpty=true
   .rw[if_pos hemp];refine Yt (abn (Yt (Yz ?_)));rw[if_pos (show (none:Option aa9).isNone=true from rfl)];refine Yt (aaV hd ?_);obtain⟨x,ex,hq⟩:=h0 (EM he hemp);cases ex;exact Yt (abn (Yz ⟨dflt,rfl,hq _⟩))
   .rw[if_neg hemp];refine Yt (EN hu gn hm hsz (λyq=>?_) λp e hp yr h' dd hs=>?_)
    .rw[if_pos (show (none:Option aa9).isNone=true from rfl)];refine Yt (aaV hd ?_);obtain⟨x,ex,hq⟩:=h0 yq;cases ex;exact Yt (abn (Yz ⟨dflt,rfl,hq _⟩))
    .rw[if_neg (show ¬ (some e).isNone=true from by simp)];exact Yt (abg (Yz ⟨e.val,rfl,by rw[yr];exact h1 p hp h' _ dd hs⟩))
 exact call_meetsIn aee hm.typeIs PySem.F.entry_dict_pop ha g ⟨hu,gn,hm,h1,h0⟩
end
def fV(h:aa4)(d:YN)(es:Array aa9)(ep:Nat):Prop:=∃ o,h.get? d=some o/\o.ExactDict/\o.data = .dict es ep
theorem fV.at(x:fV h d es ep)(e:∀ o,h.get? d=some o->h'.get? d=some o):fV h' d es ep:=let ⟨o,ho,r⟩:=x;⟨o,e o ho,r⟩
theorem fV.lt(x:fV h d es ep):d<h.objs.size:=let ⟨_,ho,_⟩:=x;YA ho
theorem fV.ty{s:YK}{d:YN}{es:Array aa9}{ep:Nat}(x:fV s.heap d es ep):s.TypeIs (.ref d) "dict" := let ⟨o,ho,hc,_⟩:=x;⟨o,ho,hc.1⟩
section
variable{prog:Zy}{w:aaa}{A:aaq}{E:YB->YK->Prop}{s:YK}{d it:YN}{es:Array aa9}{i ep:Nat}
theorem ER(lo:(d == aal)=false)(x:fV s.heap d es ep)(q:Q (.ref s.heap.objs.size) { s with heap:=s.heap.push { cls:=.type "dict_keyiterator",data:=.fields #[.ref d,.int 0 0,.int es.size 0,.int ep 0] } }):YT (model prog w) A (agv (.ref d)) Q E s:=by have T:=x.ty;obtain⟨o,ho,hc,hq⟩:=x;refine adp T adW (ZZ adW T PySem.F.entry_dict_iter ?_ (PySem.F.args_dict_iter_1 _));unfold aas.«dict.__iter__»;refine Yt ?_;unfold Builtin.Dict.dictSlotNone;refine Yt (aed T ?_);refine Yz (a:=Y7 d) ?_;show YT _ A.in1 (Builtin.Dict.showsAll d >>= _) _ _ s;unfold Builtin.Dict.showsAll;rw[if_neg (by rw[lo];exact Y3)];refine Yt (Yz (Yt (aaF ho hq (Yt (aef ho hq ?_)))));refine Yt (ZR (Yz ⟨_,rfl,"dict_keyiterator",_,⟨_,YH _ rfl,rfl⟩,PySem.F.slot_dict_keyiterator_next.lookup,?_⟩));simpa [abY] using q
theorem ES(hit:s.heap.IsKeyIter it d i es.size ep)(x:fV s.heap d es ep)(hi:i<es.size)(q:∀ h',h'.IsKeyIter it d (i+1) es.size ep->Heap.SameBut it s.heap h'->Q (some es[i].key) { s with heap:=h' }):YT (model prog w) A (abe (.ref it)) Q E s:=by
 obtain⟨o,ho,hc,hd⟩:=id hit;obtain⟨od,hod,fi,hdd⟩:=x;have T:=hit.typeIs;unfold abe;refine Yt (abq (Z2 (name:=YG "__next__") T aag (ZZ aag T abJ ?_ (abz _))));refine Yt (Yz (Yt (Yt ?_)))
 first|refine Yt (aay T (Yz (Yt (abA ho hd ?_))))|refine Yt (aa1 T (Yz (Yt (abA ho hd ?_))))
 have ow:Builtin.Dict_items.ownsTuple "dict_keyiterator" = false:=by decide
 simp only[ow,Y5,if_false];show YT _ A.in1 (if (Y7 d == Value.none)=true then _ else _) _ _ s;rw[if_neg (show ¬ (Y7 d == Value.none)=true from Y3)];refine Yt (Yz (Yt (aaF hod hdd ?_)));rw[if_neg (by simp)];refine Yt (Yz (Yt (aef hod hdd ?_)));rw[if_neg (by simp)];refine Yz ?_;simp only[show ¬ (i:Int)<0 by lia,if_false,Zq,Zj hi];refine Yt ?_
 first|refine Yt (aay T (Yz (Yt (acf T ?_))))|refine Yt (aa1 T (Yz (Yt (acf T ?_))))
 show YT _ A.in1 (afU (.ref it) 1 (abY ((i:Int)+1)) >>= _) _ _ s;refine Yt (aca ho hd (by simp) ?_);have jZ:(s.heap.update it (abr (·.setIfInBounds 1 (abY ((i:Int)+1))))).IsKeyIter it d (i+1) es.size ep:=⟨_,Zo _ ho (Obj.isFreed_of_fields (ae1 hd _)),(Obj.cls_mapFields ..).trans hc,by rw[ae1 hd];simp[abY]⟩
 refine Yt (ZN (Yt (acf (s:={ s with heap:=s.heap.update it (abr (·.setIfInBounds 1 (abY ((i:Int)+1)))) }) jZ.typeIs ?_)));show YT _ A.in1 (pure es[i].key) _ _ _;exact Yz (Yz ⟨_,rfl,Yz (q _ jZ (ZO ..))⟩)
theorem ET(hh:A.handled=none)(hit:s.heap.IsKeyIter it d es.size es.size ep)(x:fV s.heap d es ep)(q:∀ h',agg it s.heap h'->Q none { s with heap:=h' }):YT (model prog w) A (abe (.ref it)) Q E s:=by
 obtain⟨o,ho,hc,hd⟩:=id hit;obtain⟨od,hod,fi,hdd⟩:=x;have T:=hit.typeIs;unfold abe;refine Yt (abq (Z2 (name:=YG "__next__") T aag (ZZ aag T abJ ?_ (abz _))));refine Yt (Yz (Yt (Yt ?_)))
 first|refine Yt (aay T (Yz (Yt (abA ho hd ?_))))|refine Yt (aa1 T (Yz (Yt (abA ho hd ?_))))
 have ow:Builtin.Dict_items.ownsTuple "dict_keyiterator" = false:=by decide
 simp only[ow,Y5,if_false];show YT _ A.in1 (if (Y7 d == Value.none)=true then _ else _) _ _ s;rw[if_neg (show ¬ (Y7 d == Value.none)=true from Y3)];refine Yt (Yz (Yt (aaF hod hdd ?_)));rw[if_neg (by simp)];refine Yt (Yz (Yt (aef hod hdd ?_)));rw[if_neg (by simp)];refine Yz ?_;simp only[show ¬ (es.size:Int)<0 by lia,if_false,Zq,abc (YD es.size)];refine Yt ?_
 first|refine Yt (aay T (Yz ?_))|refine Yt (aa1 T (Yz ?_))
 show YT _ A.in1 (afU (.ref it) 0 .none >>= _) _ _ s;refine Yt (aca ho hd (by simp) ?_);show YT _ A.in1 (newExc (.type "StopIteration") [] >>= _) _ _ _;refine Yt ?_;simp only[newExc,agL];refine Yt (ZR ?_ (by size_fits));refine Yt (m:=ac4 _ _) (adB (a:=Value.none) (by first|rfl|(simp only[ac4];rfl)) ?_);refine ZR ?_ (by size_fits);simp only[raiseNew];refine Yt (wpAny_handled ?_);rw[show A.in1.handled=none from hh];refine Yt (Yz (wpAny_throw ?_));refine Yt (abG (T := "StopIteration") (b:=true) ⟨_,YH _ rfl,rfl⟩ aeA ?_);exact Yz (q _ (((ZO ..).extBut.push _).push _))
theorem OZ(hh:A.handled=none)(I d:YN)(a7:d≠I)(es:Array aa9)(ep:Nat) :
 Walks prog w A I [I,d] [I] es.size (λi v=>∃ e,es[i]?=some e/\v=e.key) (λi h=>h.IsKeyIter I d i es.size ep/\fV h d es ep) where
 sub:=λb hb=>by simp at hb;simp[hb]
 frame:=λ_ _ _ st hk=>⟨st.1.at λo e=>hk I (by simp) o e,st.2.at λo e=>hk d (by simp) o e⟩
 item:=λi s Q E hi st hQ=>by refine ES st.1 st.2 hi λh' jZ EU=>?_;exact hQ _ h' s.toks ⟨es[i],Zj hi,rfl⟩ ⟨jZ,st.2.at λo e=>EU.extBut d o a7 e⟩ λb o hb e=>EU.extBut b o (λh=>hb (by simp[h])) e
 done:=λs Q E st hQ=>ET hh st.1 st.2 λh' oO=>hQ h' s.toks λb o hb e=>oO b o (λh=>hb (by simp[h])) e
 self:=λ_ _ _ _ st hQ=>aev st.1 hQ
theorem EV(lo:(d == aal)=false):aeB prog w "dict" d d es.size (λi v=>∃ e,es[i]?=some e/\v=e.key) (λh=>fV h d es ep) where
 type:=λ_ x=>x.ty
 there:=λ_ x=>⟨x.lt,x.lt⟩
 keep:=λ_ _ x hk=>x.at λo e=>hk d (.inl rfl) o e
 notList:=by decide
 notTuple:=by decide
 hint:=λ_ _ _ _ x hq=>PySem.W.kdl_hint_dict x.ty hq
 iter:=λ_ _ hh x=>⟨_,_,(λ_ _ hq=>ER lo x hq),OZ hh _ d (YS x.lt) es ep,⟨⟨_,YH _ rfl,rfl,rfl⟩,x.at λo e=>Yy _ e⟩⟩
end
section
def mQ(h:aa4)(vs:List YB)(kis:List (List Int))(i:Nat):Prop:=∃ (p:YN) (o:Obj) (ai:List YB) (m:Nat),vs[i]?=some (.ref p)/\h.get? p=some o/\o.cls = .type "tuple" /\ o.data = .seq ai.toArray m/\ac2 ai (kis.getD i [])/\ai≠[]
theorem mQ.keep(x:mQ h vs kis i)(k:∀ b o,h.get? b=some o->(∀ n xs,o≠ZQ "list" xs n)->h'.get? b=some o):mQ h' vs kis i:=by obtain⟨p,o,ai,m,h1,h2,h3,r⟩:=x;exact⟨p,o,ai,m,h1,k p o h2 (λn xs z=>by rw[z] at h3;exact absurd (Value.type.inj h3) (by decide)),h3,r⟩
theorem O0(h:ac2 ai ns)(hn:ai≠[]):∃ i t,ai[0]?=some (.int i t):=by
 cases h with
 | nil=>exact absurd rfl hn
 | cons=>exact⟨_,_,rfl⟩
theorem EW:∀ (vs:List YB) (kis:List (List Int)),kis.length=vs.length->(∀ i,i<vs.length->mQ h vs kis i)->∃ fs,af9 h vs fs/\fs.length=vs.length/\∀ v∈fs,∃ i t,v = .int i t
 | [],_,_,_=>⟨[],PySem.W.KatTups.nil,rfl,λv z=>by simp at z⟩
 | v::vs,[],e,_=>by simp at e
 | v::vs,k::kis,e,hh=>by
  obtain⟨p,o,ai,m,h1,h2,h3,h4,h5,h6⟩:=hh 0 (by simp);have Eb:v = .ref p:=by simpa using h1
  subst Eb;obtain⟨i,t,hf⟩:=O0 h5 h6;obtain⟨fs,a1,a2,a3⟩:=EW vs kis (by simpa using e) λi hi=>by obtain⟨p,o,ai,m,h1,r⟩:=hh (i+1) (by simpa using hi);exact⟨p,o,ai,m,by simpa using h1,by simpa using r⟩
  refine⟨.int i t::fs,PySem.W.KatTups.cons h2 h3 h4 (by simpa using hf) a1,by simp[a2],λv hv=>?_⟩;rcases YV.mp hv with z|z
  .exact⟨i,t,z⟩
  .exact a3 v z
def uR(prog:Zy)(w:aaa)(h:aa4)(vs:List YB)(kis:List (List Int)):Prop :=
 2<=vs.length->∃ κ,∀ (A:aaq) (E:YB->YK->Prop) (s:YK),s.heap=h->(∀ Q:SortKind->YK->Prop,Q κ s->YT (model prog w) A (keyKind' vs.toArray) Q E s) /\
  ∀ i j,i<vs.length->j<vs.length->∀ C:Bool->YK->Prop,C (b7 kis i j) s->YT (model prog w) A (keyLt' κ (vs.getD i Value.none) (vs.getD j Value.none)) C E s
theorem O2(ho:s.heap.get? a=some (ZQ "list" vs.toArray n))(hl:kis.length=vs.length)(bH:vs.length<64)(hk:∀ g:aa4,(∀ b o,(∀ n xs,o≠ZQ "list" xs n)->s.heap.get? b=some o->g.get? b=some o)->uR prog w g vs kis)(fin:∀ h',(∀ b o,b≠a->s.heap.get? b=some o->h'.get? b=some o)->(∃ c,h'.get? a=some (ZQ "list" (ZT ((bU (b7 kis) vs.length).toList.map λi=>vs.getD i Value.none)) c))->P (.done (.ret .none)) { s with heap:=h' }) :
 YT (model prog w) A (aas.«list.sort» ⟨[.ref a],[]⟩) P E s:=by
 rw[list_sort_plain];have la:a<s.heap.objs.size:=YA ho;refine Yt (afC ho rfl (Yt (abp ho rfl ?_ (by rw[YI,Z8];walk_at "o") (Zc _))));obtain⟨e1,oa⟩:∃ e1,(s.heap.update a (Zg λ_=>(#[]:Array YB))).get? a=some (ZQ "list" #[] e1):=⟨_,acF ho λ_=>#[]⟩
 have keep:∀ b o,b≠a->s.heap.get? b=some o->(s.heap.update a (Zg λ_=>(#[]:Array YB))).get? b=some o:=λb o z e=>(YM _ _ (Zt z)).trans e;refine Yt (adE oa rfl ?_);generalize s.heap.update a (Zg λ_=>(#[]:Array YB))=g at oa keep ⊢;refine Yt (aez ?_ (by show vs.length<=_;rw[Z8];walk_at "o"));refine Yt (adD ?_ (Zc _));refine ZN ?_;show YT (model prog w) A _ P E { s with heap:=(g.push (ZQ "tuple" vs.toArray 0)).push (ZQ "list" #[] 0) };have oP:((g.push (ZQ "tuple" vs.toArray 0)).push (ZQ "list" #[] 0)).get? a=some (ZQ "list" #[] e1):=Yy _ (Yy _ oa);have oF:∀ b o,b≠a->s.heap.get? b=some o->((g.push (ZQ "tuple" vs.toArray 0)).push (ZQ "list" #[] 0)).get? b=some o:=λb o z e=>Yy _ (Yy _ (keep b o z e));generalize (g.push (ZQ "tuple" vs.toArray 0)).push (ZQ "list" #[] 0)=g2 at oP oF ⊢;dsimp only;have neT:∀ b o,s.heap.get? b=some o->(∀ n xs,o≠ZQ "list" xs n)->b≠a:=λb o e z y=>by rw[y,ho] at e;cases e;exact z _ _ rfl
 have O3:((bU (b7 kis) vs.length).toList.map λi=>vs.getD i Value.none).length=vs.length:=by rw[Yw,(mI (n:=vs.length) (jX kis)).1.length_eq,YQ]
 have sz:(ZT ((bU (b7 kis) vs.length).toList.map λi=>vs.getD i Value.none)).size<=Y0+1:=by rw[YI,O3,Z8];walk_at "o"
 have done:P (.done (.ret .none)) { s with heap:=g2.update a (Zg λ_=>ZT ((bU (b7 kis) vs.length).toList.map λi=>vs.getD i Value.none)) } :=
  fin _ (λb o z e=>(YM _ _ (Zt z)).trans (oF b o z e)) ⟨_,acF oP λ_=>_⟩
 by_cases h2:vs.toArray.size<2
 .rw[if_pos h2,if_pos h2];refine Yt (Yz ?_);rw[StateT.run_pure];refine Yt (Yz ?_);dsimp only;have self:(Y1 vs.length).map (λi=>vs.getD i Value.none)=vs:=by
   apply acn
   .simp
   .intro i h1 h2;simp[Yv,h2]
  have e0:(arrOf (SortSt.mk' general' (vs.toArray.zip vs.toArray) #[] 7 none)).map (·.2)=ZT ((bU (b7 kis) vs.length).toList.map λi=>vs.getD i Value.none):=by unfold bU;rw[if_pos (by simpa using h2)];apply afL.mp;rw[show (Y1 vs.length).toArray.toList=Y1 vs.length from rfl,self];show ((vs.toArray.zip vs.toArray).map (·.2)).toList=_;simp[afM]
  rw[e0];refine Yt (adE oP rfl (Yt (abp oP rfl ?_ (Zc _) sz)));simp only[bne_self_eq_false,Y5,if_false];exact Yz done
 .rw[if_neg h2,if_neg h2];have qw:2<=vs.length:=by rw[YI] at h2;walk_at "o"
  obtain⟨κ,hκ⟩:=hk g2 (λb o z e=>oF b o (neT b o e z) e) qw;refine Yt ((hκ A E { s with heap:=g2 } rfl).1 _ ?_);have ask:(afO vs.length).kasWp (agc prog w A κ vs) (λp s'=>s' = { s with heap:=g2 }/\p=bU (b7 kis) vs.length) { s with heap:=g2 }:=by
   have pv:=x5 _ (x4 (n:=vs.length) (jX kis) (by walk_at "o"));refine xZ (lt:=b7 kis) (n:=vs.length) (Ok:=λs'=>s' = { s with heap:=g2 }) (λi j C s' hi hj e q=>?_) (λp s' e q=>⟨e,?_⟩) _ _ rfl pv
   .subst e;exact (hκ _ _ _ rfl).2 i j hi hj C (q _ rfl)
   .rw[q];unfold bU;rw[if_neg (by walk_at "o")]
  refine Yt (Zz (agd (κ:=κ) (ks:=vs) (vs:=vs) (Q:=λst s'=>s' = { s with heap:=g2 }/\arrOf st=(bU (b7 kis) vs.length).map (afP (vs.toArray.zip vs.toArray))/\agH st=none)
   rfl qw bH (λp st s' b1 b2 b3 b4=>⟨b4.1,by rw[b2,b4.2],b3⟩) ask) ?_ λ_ _ z=>z)
  rintro ⟨⟨⟩,st⟩ s' ⟨rfl,har,hf⟩;dsimp only;rw[afQ rfl har];refine Yt (adE oP rfl (Yt (abp oP rfl ?_ (Zc _) sz)));rw[hf];simp only[bne_self_eq_false,Y5,if_false];exact Yz done
theorem EX(hl:kis.length=vs.length)(bH:vs.length<64)(hk:∀ g:aa4,(∀ b o,(∀ n xs,o≠ZQ "list" xs n)->s.heap.get? b=some o->g.get? b=some o)->uR prog w g vs kis)(qF:∀ (A':aaq) (Q':List YB->YK->Prop) (E':YB->YK->Prop),A'.handled=A.handled->(∀ h' tk,(∀ b o,s.heap.get? b=some o->h'.get? b=some o)->s.heap.objs.size<=h'.objs.size->Q' vs { s with heap:=h',toks:=tk })->YT (model prog w) A' (collect (.ref r)) Q' E' s)(q:∀ l h' tk,s.heap.objs.size<=l->(∀ b o,s.heap.get? b=some o->h'.get? b=some o)->(∃ c,h'.get? l=some (ZQ "list" (ZT ((bU (b7 kis) vs.length).toList.map λi=>vs.getD i Value.none)) c))->Q (.ref l) { s with heap:=h',toks:=tk }) :
 YT (model prog w) A (call (.builtin "sorted") [.ref r]) Q E s:=by
 refine ac5 kind_sorted plain_sorted entry_sorted (args_sorted1 _) ?_;unfold aas.«sorted»;refine Yt (m:=checkCount "sorted" 1 1 _) (Yz (Yt (qF _ _ _ rfl λh1 tk keep hsz=>?_)));refine Yt (adD ?_ (by rw[Z8];walk_at "o"));have oL:(h1.push (ZQ "list" vs.toArray 0)).get? h1.objs.size=some (ZQ "list" vs.toArray 0):=YH _ rfl;have iy:∀ b o,s.heap.get? b=some o->b≠h1.objs.size/\(h1.push (ZQ "list" vs.toArray 0)).get? b=some o:=λb o e=>by have:=YA e;exact⟨by walk_at "o",Yy _ (keep b o e)⟩
 show YT _ A.in1 (holding [.ref h1.objs.size] (call (.builtin "list.sort") [.ref h1.objs.size]) >>= _) _ _ { s with heap:=h1.push (ZQ "list" vs.toArray 0),toks:=tk };generalize h1.push (ZQ "list" vs.toArray 0)=h2 at oL iy ⊢;generalize h1.objs.size=l at oL iy hsz ⊢;refine Yt (ZN (ZZ slot_list_sort ⟨_,oL,rfl⟩ aga ?body (args_list_sort _)))
 case body =>
  refine O2 (s:={ s with heap:=h2,toks:=tk }) oL hl bH (λg z=>hk g λb o n e=>z b o n (iy b o e).2) λh' k c=>⟨_,rfl,Yz ⟨_,rfl,q l h' tk hsz (λb o e=>k b o (iy b o e).1 (iy b o e).2) c⟩⟩
theorem O4(hl:kis.length=vs.length)(hk:∀ i,i<vs.length->mQ h vs kis i):uR prog w h vs kis:=λh2=>by
 obtain⟨fs,ht,lf,hi⟩:=EW vs kis hl hk;refine⟨ahd true,λA E s e=>?_⟩;subst e;refine⟨λQ q=>afN (T:=.type "int") ht (by walk_at "o") (λv hv=>?_) (by decide) q,λi j hi hj C q=>?_⟩
 .obtain⟨i,t,rfl⟩:=hi v hv;exact PySem.W.Looks.now
 .obtain⟨p1,o1,i1,m1,a1,b1,_,c1,d1,_⟩:=hk i hi;obtain⟨p2,o2,i2,m2,a2,b2,_,c2,d2,_⟩:=hk j hj;rw[Yv,Yv,a1,a2];have z1:=d1.length;have z2:=d2.length;exact agn b1 c1 b2 c2 (by simpa using Ec (b:=true) (i:=0) d1 d2 (by simp[z1,z2]) q)
theorem O5(hl:kis.length=vs.length)(bH:vs.length<64)(hk:∀ i,i<vs.length->mQ s.heap vs kis i)(qF:∀ (A':aaq) (Q':List YB->YK->Prop) (E':YB->YK->Prop),A'.handled=A.handled->(∀ h' tk,(∀ b o,s.heap.get? b=some o->h'.get? b=some o)->s.heap.objs.size<=h'.objs.size->Q' vs { s with heap:=h',toks:=tk })->YT (model prog w) A' (collect (.ref r)) Q' E' s)(q:∀ l h' tk,s.heap.objs.size<=l->(∀ b o,s.heap.get? b=some o->h'.get? b=some o)->(∃ c,h'.get? l=some (ZQ "list" (ZT ((bU (b7 kis) vs.length).toList.map λi=>vs.getD i Value.none)) c))->Q (.ref l) { s with heap:=h',toks:=tk }) :
 YT (model prog w) A (call (.builtin "sorted") [.ref r]) Q E s :=
 EX hl bH (λg z=>O4 hl λi hi=>(hk i hi).keep λb o e n=>z b o n e) qF q
theorem EY(K:aeB prog w T r d n P OK)(hh:A.handled=none)(ao:OK s.heap)(hn:n<=Y0)(q:∀ h' tk acc,(∀ b o,s.heap.get? b=some o->h'.get? b=some o)->s.heap.objs.size<=h'.objs.size->ItemsOf P acc n->Q acc.toList { s with heap:=h',toks:=tk }):YT (model prog w) A (collect (.ref r)) Q E s:=by
 have lt:=K.there _ ao;unfold collect;refine Yt (wpAny_runValue (ZI entry_proto_collect' ?_));rw[Zv PySem.F.plain_proto_collect _];show YT _ A.in1 (ahc [] >>= λl=>again (.builtin "list.__iadd__" ⟨[l,.ref r],[]⟩)) _ _ s;refine Yt (ZR (Yz ⟨Code.quiet_builtin _ (by decide +kernel),ZI entry_list_iadd' ?_⟩));rw[Zv PySem.F.plain_list_iadd _];have oS:(s.heap.push { cls:=.type "list",data:=.seq ([]:List YB).toArray }).get? s.heap.objs.size=some { cls:=.type "list",data:=.seq #[] 0 }:=YH _ rfl;show YT _ A.in1 (aaL (.ref s.heap.objs.size) (.ref r) (.ref s.heap.objs.size)) _ _ { s with heap:=s.heap.push { cls:=.type "list",data:=.seq ([]:List YB).toArray } };refine PySem.W.kdl_extend (R:=λr s'=>match r with
  | .ok (.ret v)=>YT (model prog w) A (match v with|.ref a=>(do match (<- load a).data with|.seq xs _=>pure xs.toList|_=>unsupported "internal:collect")|_=>unsupported "internal:collect") Q E s'
  | .ok _=>False
  | .error e=>E e s') (s:={ s with heap:=s.heap.push { cls:=.type "list",data:=.seq ([]:List YB).toArray } }) K hh (K.keep _ _ ao λb _ o e=>Yy _ e) s.heap.objs.size (ZM lt.1) (ZM lt.2) (.ref s.heap.objs.size) 0 oS (λh' tk acc c hk hS fW=>?_) hn
 show YT _ A (load s.heap.objs.size >>= _) _ _ _;refine Yt (wpAny_load hS (Yz ?_));exact q h' tk acc (λb o e=>hk b o (YS (YA e)) (Yy _ e)) (abL (YA hS)) fW
end
def gQ(H:Hp)(xs:List V)(kvs:List (List Key × V)):Prop:=ay (λx (kv:List Key × V)=>∃ a,x = .ref a/\H a=some (.tup (kv.1.map kV))) xs kvs
theorem KT.EZ(r:KT H kvs xs):gQ H ((xs.map (·.2.1)).map V.ref) kvs:=by
 induction r with
 | nil=>exact trivial
 | cons h t ih=>exact⟨⟨_,rfl,h.2.1⟩,ih⟩
theorem gQ.E1{K:Yu}{H:Hp}:∀ {ys:List V} {kvs:List (List Key × V)} {kis:List (List Int)},gQ H ys kvs->kvs.map (·.1)=kis.map (λk=>k.map adu)->(∀ k∈kis,k≠[])->b6 K H ys kis
 | [],[],[],_,_,_=>trivial
 | [],[],_::_,_,e,_=>by simp at e
 | _::_,kv::kvs,[],_,e,_=>by simp at e
 | y::ys,kv::kvs,k::kis,h,e,hn=>by rw[YW,YW] at e;injection e with e1 e2;obtain⟨⟨a,rfl,ha⟩,t⟩:=h;refine⟨⟨a,rfl,?_,hn k (.head _)⟩,gQ.E1 t e2 λk hk=>hn k (.tail _ hk)⟩;rw[e1,ZG] at ha;exact .inl (.inl ha)
 | [],_::_,_,h,_,_=>h.elim
 | _::_,[],_,h,_,_=>h.elim
theorem yt:∀ (as:List YN),Vals (as.map V.ref) (as.map Y7)
 | []=>.nil
 | _::as=>.cons rfl (yt as)
section
theorem E2(I:Inv X pins σ H s)(e:H p=some (.dT kvs)):∃ (as:List YN) (es:Array aa9) (ep:Nat),gQ H (as.map V.ref) kvs/\(p == aal)=false/\fV s.heap p es ep/\es.size=as.length/\(∀ acc:Array YB,ItemsOf (λi v=>∃ e,es[i]?=some e/\v=e.key) acc es.size->acc.toList=as.map Y7)/\as.length<=Y0:=by
 obtain⟨z,hd,xs,rel,o,es,ep,ho,hc,hdt,he,his,hn⟩:=uP I.ao e;have hl:xs.length=kvs.length:=(Paired.length rel).symm;have hs:es.size=xs.length:=abj he;refine⟨xs.map (·.2.1),es,ep,KT.EZ rel,hd,⟨o,ho,hc,hdt⟩,by rw[Yw];exact hs,λacc ha=>?_,by rw[Yw,hl];exact z⟩;refine aa2 λi=>?_;rw[YF,YF];have la:acc.toList.length=es.size:=by rw[Z7];exact ha.1
 by_cases hi:i<es.size
 .obtain⟨v,hv⟩:∃ v,acc.toList[i]?=some v:=⟨_,Yx (by lia)⟩
  obtain⟨en,h1,h2⟩:=ha.2 i v (by rw[<- acg];exact hv);rw[entry_at he i] at h1;cases hx:xs[i]? with
  | none=>rw[hx] at h1;cases h1
  | some y=>rw[hx] at h1;cases h1;rw[hv,h2];rfl
 .rw[ZF (by lia),ZF (by lia)];rfl
theorem O6(hc:X.calm=true):dN X (.type "list") (λxs H Q=>∃ p kvs,xs=[.ref p]/\H p=some (.dT kvs)/\∀ l ys,H l=none->gQ H ys kvs->Q (.ref l) (upd H l (.lst ys))):=by intro pins s σ H xs us Q I r h;obtain⟨p,kvs,rfl,e,q⟩:=h;obtain⟨u,rfl,rx⟩:=vals1 r;cases rx;obtain⟨as,es,ep,hk,lo,ra,hs,fW,hz⟩:=E2 I e;refine PySem.W.kdl_call (EV lo) (I.ok.hd hc) ra (by rw[hs];exact hz) λh' tk acc c keep hD ha=>?_;have ea:=fW acc ha;exact⟨.ref s.heap.objs.size,_,I.laid (t':=tk) keep (YD _) (show bw X.prog X.w _ h' _ (.lst (as.map V.ref)) from ⟨by rw[Yw];exact hz,as.map Y7,c,yt as,by rw[<- ea,aew];exact hD⟩),rfl,q _ _ (I.ao.fresh (YD _)) hk⟩
theorem O7(I:Inv X pins σ H s)(h:b6 X.K H ks kis)(r:Vals ks us):∀ i,i<us.length->mQ s.heap us kis i:=λi hi=>by
 have hk:i<ks.length:=by rw[r.length];exact hi
 have O8:i<kis.length:=by rw[<- h.len];exact hk
 obtain⟨p,ep,hp⟩:=h.get (Yx hk);obtain⟨u,eu,ru⟩:=r.get (Yx hk);rw[ep] at ru;cases ru;obtain⟨ai,rv,⟨o,ho,hc,m,hd⟩,_⟩:=I.tuple hp;refine⟨p,o,ai,m,eu,ho,hc,hd,intsAre_of rv,λz=>?_⟩;have nn:kis.getD i []≠[]:=by
  have all:∀ {ks:List V} {ns:List (List Int)},b6 X.K H ks ns->∀ n∈ns,n≠[]:=by
   intro ks
   induction ks with
   | nil=>intro ns h n hn;cases ns with
    | nil=>simp at hn
    | cons _ _=>exact h.elim
   | cons k ks ih=>intro ns h n hn;cases ns with
    | nil=>exact h.elim
    | cons m ns =>
     obtain⟨⟨_,_,_,a7⟩,t⟩:=h;rcases YV.mp hn with z|z
     .rw[z];exact a7
     .exact ih t n z
  rw[Yv,Yx O8];exact all h _ (adN _)
 have:=rv.length;rw[Yw,z] at this;exact nn (Z1.mp this)
theorem E3(I:Inv X pins σ H s)(r:Vals ks us)(hz:ks.length<=Y0)(hl:s.heap.objs.size<=l)(keep:∀ b o,s.heap.get? b=some o->h'.get? b=some o)(hD:∃ c,h'.get? l=some (ZQ "list" (ZT ((bU (b7 kis) us.length).toList.map λi=>us.getD i Value.none)) c))(q:∀ l,H l=none->Q (.ref l) (upd H l (.lst (bz kis .non ks)))):EP X pins σ Q (.ref l) { s with heap:=h',toks:=tk }:=by obtain⟨c,hD⟩:=hD;have sv:=Ee (kis:=kis) r;rw[r.length] at sv;exact⟨.ref l,_,I.laid (t':=tk) keep hl (show bw X.prog X.w _ h' _ (.lst (bz kis .non ks)) from ⟨by rw[oE];exact hz,_,c,sv,hD⟩),rfl,q l (I.ao.fresh hl)⟩
theorem O9(hc:X.calm=true):dN X (.builtin "sorted") (λxs H Q=>∃ (p:YN) (kvs:List (List Key × V)) (kis:List (List Int)),xs=[.ref p]/\H p=some (.dT kvs)/\kvs.map (·.1)=kis.map (λk=>k.map adu)/\(∀ k∈kis,k≠[])/\kvs.length<64 /\
 ∀ l ys,H l=none->gQ H ys kvs->Q (.ref l) (upd H l (.lst (bz kis .non ys)))):=by
 intro pins s σ H xs us Q I r h;obtain⟨p,kvs,kis,rfl,e,ek,a7,bH,q⟩:=h;obtain⟨u,rfl,rx⟩:=vals1 r;cases rx;obtain⟨as,es,ep,hk,lo,ra,hs,fW,hz⟩:=E2 I e;have la:as.length=kvs.length:=by have:=hk.len;rwa [Yw] at this
 have lk:kis.length=kvs.length:=by have:=congrArg List.length ek;simpa using this.symm
 have hK:b6 X.K H (as.map V.ref) kis:=hk.E1 ek a7;have rv:=yt as;refine O5 (kis:=kis) (vs:=as.map Y7) (by rw[Yw];lia) (by rw[Yw];lia) (O7 I hK rv) (λA' Q' E' hA hq=>EY (EV lo) (hA.trans (I.ok.hd hc)) ra (by rw[hs];exact hz) λh' tk acc k1 k2 ha=>?_) λl h' tk h1 h2 h3=>E3 I rv (by rw[Yw];exact hz) h1 h2 h3 λl hl=>q l _ hl hk;rw[fW acc ha];exact hq h' tk k1 k2
end
theorem Pb(z:kvs.length<=Y0)(lo:(a == aal)=false)(rel:KT H' kvs xs)(dd:h'.DictOfH (adb (ee P w)) a xs):bw P w H' h' a (.dT kvs):=by obtain⟨o,es,ep,h1,h2,h3,h4,_,h5⟩:=dd;exact⟨z,lo,xs,rel,o,es,ep,h1,h2,h3,h4,h5⟩
section
theorem Pc(e:H p=some (.dT kvs))(r:KT H ji xs):KT (upd H p ob) ji xs :=
 KT.keeps r λb ys z=>by rw[aC (λy=>by rw[y,e] at z;cases z)];exact z
theorem Pd(hu:A.units+1<adi)(I:Inv X pins σ H s)(e:H p=some (.dT kvs))(eb:H b=some (.tup (k.map kV)))(hm:more=[] ∨ ∃ x,more=[x])(h1:∀ v,cG kvs k=some v->∀ w' s',Inv X pins σ (upd H p (.dT (fU kvs k))) s'->RelV v w'->Q w' s')(h0:cG kvs k=none->∃ x,more=[x]/\∀ s',Inv X pins σ H s'->Q x s') :
 YT (model X.prog X.w) A (call (.builtin "dict.pop") (.ref p :: .ref b::more)) Q E s:=by
 obtain⟨z,lo,xs,rel,dd⟩:=uP I.ao e;have hl:xs.length=kvs.length:=(Paired.length rel).symm;refine OY (aaS hu) (qD I.ao eb) lo dd (by rw[hl];exact z) hm (λy hy h' tk mP hs=>?_) λhn=>?_
 .have rv:=rel.val k;rw[hy] at rv;cases hv:cG kvs k with
  | none=>rw[hv] at rv;exact (show False from rv).elim
  | some v =>
   rw[hv] at rv;have he:∃ q,h'.get? p=some q:=let ⟨q,_,_,hq,_⟩:=mP;⟨q,hq⟩;exact h1 v hv _ _ (yk (t':=tk) I (by rw[e];exact aaZ) hs he (Pb (YE (OL kvs k) z) lo (Pc e (KT.out rel k)) mP)) rv
 .have rv:=rel.val k;rw[hn] at rv;cases hv:cG kvs k with
  | some v=>rw[hv] at rv;exact (show False from rv).elim
  | none =>
   obtain⟨x,ex,q⟩:=h0 hv;exact⟨x,ex,λtk=>q _ (I.tok tk)⟩
end
def E4(td ty:TE):TE:=λσ H Q=>td σ H λx H1=>∃ a,x = .ref a/\EI H1 a/\ty σ H1 λy H2=>∃ b kvs k v,y = .ref b/\H2 a=some (.dT kvs)/\H2 b=some (.tup (k.map kV))/\cG kvs k=some v/\Q v (upd H2 a (.dT (fU kvs k)))
section
theorem E5(hu:X.A.units+1<adi)(ho:PE X o td)(he:PE X e ty)(m:M1 X o "pop" apos e cL):PE X (.Call (.Attribute o "pop" apos) [e] [] cL) (E4 td ty):=by
 intro pins s σ H Q I h;refine wpAny_Call_method m.base m.few m.line PySem.F.plainAttrs_dict aee PySem.F.type_dict_pop (aD (ho pins s σ H _ I h) λu s1 zq=>?_);obtain⟨x,H1,I1,rx,a,ex,d,q1⟩:=zq;subst ex;obtain rfl:u=Y7 a:=rx;obtain⟨t1,t2,_⟩:=OT I1 d;refine⟨t1,t2,?_⟩;rw[m.trees];refine adT rfl (acr (aav (aD (he pins s1 σ H1 _ I1 q1) λiv s2 ⟨y,H2,I2,ry,b,kvs,k,v,ey,ea,eb,l,q2⟩=>aaE ?_)));subst ey;obtain rfl:iv=Y7 b:=ry;exact Pd hu I2 ea eb (.inl rfl) (λv' l' w' s3 I3 ie=>⟨v',_,I3,ie,by rw[l] at l';cases l';exact q2⟩) λl'=>by rw[l] at l';cases l'
theorem E6:dN X (.builtin "len") (λxs H Q=>∃ p kvs,xs=[.ref p]/\H p=some (.dT kvs)/\Q (.int kvs.length) H):=by
 intro pins s σ H xs us Q I r h;obtain⟨p,kvs,rfl,e,q⟩:=h;obtain⟨u,rfl,rx⟩:=vals1 r;cases rx;obtain⟨z,lo,xs,rel,o,es,ep,ho,hc,hdt,he,his,hn⟩:=uP I.ao e;have hs:es.size=kvs.length:=(abj he).trans (Paired.length rel).symm;have T:s.TypeIs (.ref p) "dict" := ⟨o,ho,hc.1⟩;have g:MeetsIn X.prog X.w (aas.«dict.__len__» ⟨[.ref p],[]⟩) (λ_ R s=>s.heap.get? p=some o/\R (.ok (.ret (.int kvs.length s.toks))) { s with toks:=s.toks+1 }):=.of_wp λA R s ⟨ho,h⟩=>by show YT _ _ (dictSize p >>= _) _ _ s;unfold dictSize;refine Yt (Yt (aaF ho hdt (Yz ?_)));show YT _ _ (Builtin.Dict.pendingCount p >>= _) _ _ s;refine Yt (wpAny_pendingCount_other lo (wpAny_ret_mkInt ?_));rw[Nat.add_zero,hs];exact h
 refine ac5 kind_len plain_len entry_len (args_len1 _) ?_;unfold aas.«len»;refine Yt (m:=oneArg "len" _) (Yz (Yt (m:=callSpecial? (.ref p) (YG "__len__")) (Z2 (name:=YG "__len__") T aeg (call_meetsIn aeg T PySem.F.entry_dict_len (PySem.F.args_dict_len_1 _) g ⟨ho,?_⟩))));show YT _ _ _ _ _ { s with toks:=s.toks+1 };refine Yt (ZN (Yz (Yt (abg ?_))));show YT _ _ (if ((kvs.length:Nat):Int)<0 then _ else _) _ _ _;rw[if_neg (by lia)];rw[Z8] at z;show YT _ _ (if ((kvs.length:Nat):Int) ≥ 2 ^ 63 then _ else _) _ _ _;rw[if_neg (by lia)];exact Yt (wpAny_mkInt (Yz ⟨_,rfl,.int kvs.length,H,I.tok _,⟨_,rfl⟩,q⟩))
end
section
variable{prog:Zy}{w:aaa}{K:Type}[DecidableEq K]{knd:KeyKind prog w K}{A:aaq}{E:YB->YK->Prop}{s:YK}{o d:YN}{es:Array aa9}{ep:Nat}
end
section
end
theorem aT{c:Prop}[Decidable c]{a b:Prop}(h:c->a)(h':¬ c->b):if c then a else b:=by
 by_cases z:c
 .rw[if_pos z];exact h z
 .rw[if_neg z];exact h' z
theorem ED(h:aa4)(hb:aal<h.objs.size):bw P w H (h.push { cls:=.type "dict",data:=.dict #[] }) h.objs.size (.dK []) :=
 ⟨Zc _,beq_eq_false_iff_ne.mpr (Zt (YS hb)),[],.nil,Heap.DictOf.new h⟩
section
theorem Inv.Pe(I:Inv X pins σ H s):aal<s.heap.objs.size:=by have h:Y9<s.heap.objs.size:=(I.mod.glob.keeps I.bk).lt;exact ag2 (by decide) h
def E7:TE:=λ_ H Q=>∀ p,H p=none->Q (.ref p) (upd H p (.dT []))
theorem E8:PE X (.Dict [] [] pos) E7:=λpins s σ H Q I h=>wpAny_Dict_empty
 ⟨.ref s.heap.objs.size,_,I.laid (a:=s.heap.objs.size) (o:=.dT []) (t':=s.toks) (λ_ _ z=>Yy _ z) (YD _)
  ⟨Zc _,beq_eq_false_iff_ne.mpr (Zt (YS (Inv.Pe I))),[],.nil,_,#[],0,YH _ rfl,⟨rfl,rfl,rfl⟩,rfl,rfl,ac6⟩,rfl,h _ (I.ao.fresh (YD _))⟩
theorem E9(h:∃ t,X.mg x=some (.int n t))(hg:Gl X x)(hd:(x == ("__debug__" : Str))=false:=by decide):PE X (.Name x pos) (tC (.int n)):=by obtain⟨t,ht⟩:=h;exact wA (v:=.int n) hg ht ⟨t,rfl⟩ hd
end
section
end
noncomputable def oj(ks:List P2)(r:Int)(i:Nat):Bool:=decide ((aB ks i).1<=r) && decide (r<=(aB ks (i+1)).1)
theorem Fc(hu:A.units+1<adi)(ho:PE X o td)(hi:PE X i ty)(hs:ym i)(eA:X.A=A:=by rfl):PE X (.Subscript o i pos) (yn td ty):=by subst eA;exact uQ hu ho hi hs
abbrev Tb:=List (P2 × S2)
noncomputable def bE(i j:Int):List Key:=[.inl i,.inl j]
theorem uS{a b:P2}(h:bE a.1 a.2=bE b.1 b.2):a=b:=by unfold bE at h;injection h with h1 h2;injection h2 with h2 _;exact Prod.ext (Sum.inl.inj h1) (Sum.inl.inj h2)
noncomputable def gR(tb:Tb)(s:P2):Option S2:=(tb.find? λr=>decide (r.1=s)).map (·.2)
noncomputable def gy(tb:Tb)(s:P2)(w:S2):Tb:=if (tb.any λr=>decide (r.1=s))=true then tb.map (λr=>if r.1=s then (r.1,w) else r) else tb++[(s,w)]
noncomputable def j4(tb:Tb)(s:P2):Tb:=tb.filter λr=>decide (r.1≠s)
def a8(H:Hp):List (List Key × V)->Tb->Prop
 | [],[]=>True
 | kv::kvs,r::tb=>(kv.1=bE r.1.1 r.1.2/\aG H kv.2 r.2.1 r.2.2)/\a8 H kvs tb
 | _,_=>False
section
theorem a8.len:∀ {kvs:List (List Key × V)} {tb:Tb},a8 H kvs tb->kvs.length=tb.length
 | [],[],_=>rfl
 | _::kvs,_::tb,h=>congrArg (· + 1) (a8.len (kvs:=kvs) (tb:=tb) h.2)
 | [],_::_,h=>h.elim
 | _::_,[],h=>h.elim
theorem a8.imp(f:∀ v a b,aG H v a b->aG H' v a b):∀ {kvs:List (List Key × V)} {tb:Tb},a8 H kvs tb->a8 H' kvs tb
 | [],[],_=>trivial
 | _::kvs,_::tb,h=>⟨⟨h.1.1,f _ _ _ h.1.2⟩,a8.imp f (kvs:=kvs) (tb:=tb) h.2⟩
 | [],_::_,h=>h.elim
 | _::_,[],h=>h.elim
theorem a8.app:∀ {kvs ji:List (List Key × V)} {tb ig:Tb},a8 H kvs tb->a8 H ji ig->a8 H (kvs++ji) (tb++ig)
 | [],_,[],_,_,h=>h
 | _::kvs,ji,_::tb,ig,h,h'=>⟨h.1,a8.app (kvs:=kvs) (tb:=tb) h.2 h'⟩
 | [],_,_::_,_,h,_=>h.elim
 | _::_,_,[],_,h,_=>h.elim
theorem a8.keys:∀ {kvs:List (List Key × V)} {tb:Tb},a8 H kvs tb->kvs.map (·.1)=tb.map λr=>bE r.1.1 r.1.2
 | [],[],_=>rfl
 | kv::kvs,r::tb,h=>by rw[YW,YW,h.1.1,a8.keys (kvs:=kvs) (tb:=tb) h.2]
 | [],_::_,h=>h.elim
 | _::_,[],h=>h.elim
theorem a8.any(s:P2):∀ {kvs:List (List Key × V)} {tb:Tb},a8 H kvs tb->(kvs.any λkv=>decide (kv.1=bE s.1 s.2))=tb.any λr=>decide (r.1=s)
 | [],[],_=>rfl
 | kv::kvs,r::tb,h=>by
  rw[ZV,ZV,a8.any s (kvs:=kvs) (tb:=tb) h.2,h.1.1]
  congr 1
  by_cases e:r.1=s
  .rw[e,decide_eq_true rfl,decide_eq_true rfl]
  .rw[decide_eq_false e,decide_eq_false λz=>e (uS z)]
 | [],_::_,h=>h.elim
 | _::_,[],h=>h.elim
theorem a8.val(s:P2):∀ {kvs:List (List Key × V)} {tb:Tb},a8 H kvs tb->(gR tb s=none->cG kvs (bE s.1 s.2)=none)/\∀ w,gR tb s=some w->∃ v,cG kvs (bE s.1 s.2)=some v/\aG H v w.1 w.2
 | [],[],_=>⟨λ_=>rfl,λw h=>by cases h⟩
 | kv::kvs,r::tb,h=>by
  have ih:=a8.val s (kvs:=kvs) (tb:=tb) h.2;by_cases e:r.1=s
  .have e1:gR (r::tb) s=some r.2:=by simp[gR,aai,e]
   rw[e1,uM (h.1.1.trans (by rw[e]))];exact⟨λz=>(by cases z),λw z=>(by cases z;exact⟨_,rfl,h.1.2⟩)⟩
  .have e1:gR (r::tb) s=gR tb s:=by simp[gR,aai,e]
   rw[e1,uN (λz=>e (uS (h.1.1.symm.trans z)))];exact ih
 | [],_::_,h=>h.elim
 | _::_,[],h=>h.elim
theorem a8.oM(hv:aG H v w.1 w.2):∀ {kvs:List (List Key × V)} {tb:Tb},a8 H kvs tb->a8 H (kvs.map λkv=>if kv.1=bE s.1 s.2 then (kv.1,v) else kv) (tb.map λr=>if r.1=s then (r.1,w) else r)
 | [],[],_=>trivial
 | kv::kvs,r::tb,h=>by
  rw[YW,YW];refine⟨?_,a8.oM hv (kvs:=kvs) (tb:=tb) h.2⟩;by_cases e:r.1=s
  .rw[if_pos e,if_pos (h.1.1.trans (by rw[e]))];exact⟨h.1.1,hv⟩
  .rw[if_neg e,if_neg (λz=>e (uS (h.1.1.symm.trans z)))];exact h.1
 | [],_::_,h=>h.elim
 | _::_,[],h=>h.elim
theorem a8.put(h:a8 H kvs tb)(hv:aG H v w.1 w.2):a8 H (putK kvs (bE s.1 s.2) v) (gy tb s w):=by
 unfold putK gy;rw[h.any s];split
 .exact h.oM hv
 .exact h.app ⟨⟨rfl,hv⟩,trivial⟩
theorem a8.drop:∀ {kvs:List (List Key × V)} {tb:Tb},a8 H kvs tb->a8 H (fU kvs (bE s.1 s.2)) (j4 tb s)
 | [],[],_=>trivial
 | kv::kvs,r::tb,h=>by
  have ih:=a8.drop (s:=s) (kvs:=kvs) (tb:=tb) h.2;unfold fU j4 at *;rw[Zs,Zs];by_cases e:r.1=s
  .have e2:kv.1=bE s.1 s.2:=h.1.1.trans (by rw[e]);rw[if_neg (by simp[e2]),if_neg (by simp[e])];exact ih
  .have e2:¬ kv.1=bE s.1 s.2:=λz=>e (uS (h.1.1.symm.trans z));rw[if_pos (by simp[e2]),if_pos (by simp[e])];exact⟨h.1,ih⟩
 | [],_::_,h=>h.elim
 | _::_,[],h=>h.elim
theorem a8.qG:∀ {ys:List V} {kvs:List (List Key × V)} {tb:Tb},a8 H kvs tb->gQ H ys kvs->eI H ys (tb.map (·.1))
 | [],[],[],_,_=>trivial
 | y::ys,kv::kvs,r::tb,h,⟨⟨a,e,ha⟩,t⟩=>⟨⟨a,e,by rw[h.1.1] at ha;exact ha⟩,a8.qG (ys:=ys) (kvs:=kvs) (tb:=tb) h.2 t⟩
 | [],_::_,_,_,h=>h.elim
 | _::_,[],_,_,h=>h.elim
 | _,[],_::_,h,_=>h.elim
 | _,_::_,[],h,_=>h.elim
end
def TabAt(H:Hp)(p:YN)(tb:Tb):Prop:=∃ kvs,H p=some (.dT kvs)/\a8 H kvs tb
def Fr(H H':Hp):Prop:=∀ b o,(∀ kvs,o≠HO.dT kvs)->H b=some o->H' b=some o
def oQ(ps:List YN)(H H':Hp):Prop:=∀ b o,b∉ps->H b=some o->H' b=some o
def Fd(H:Hp)(ps:List YN):Prop:=∀ p∈ps,∃ kvs,H p=some (.dT kvs)
section
theorem _root_.L2.ak.fr(s:ak H H'):Fr H H':=λb o _ e=>s b o e
theorem SameBut.but(a:SameBut p H H')(h:p∈ps):oQ ps H H':=λc o z e=>a c o (λy=>z (y ▸ h)) e
theorem oQ.fr(a:oQ ps H H')(d:Fd H ps):Fr H H':=λb o ho e=>by
 by_cases hb:b∈ps
 .obtain⟨kvs,hk⟩:=d b hb;rw[hk] at e;exact absurd (Option.some.inj e).symm (ho kvs)
 .exact a b o hb e
theorem Fe(h:H p=some (.dT kvs)):Fr H (upd H p o):=λb u hu e=>by rw[aC (λz=>by rw[z,h] at e;exact hu _ (Option.some.inj e).symm)];exact e
theorem Pf(h:H p=some (.dT kvs)):Fd H [p]:=λb hb=>⟨kvs,(YZ.mp hb) ▸ h⟩
theorem SameBut.fr(a:SameBut p H H')(h:H p=some (.dT kvs)):Fr H H':=oQ.fr (SameBut.but a (.head _)) (Pf h)
theorem aG.fr(h:aG H v a b)(f:Fr H H'):aG H' v a b:=let ⟨p,e,hp⟩:=h;⟨p,e,f _ _ (λ_ z=>nomatch z) hp⟩
theorem TabAt.fr(h:TabAt H p tb)(f:Fr H H')(e:∀ kvs,H p=some (.dT kvs)->H' p=some (.dT kvs)):TabAt H' p tb:=let ⟨kvs,a,b⟩:=h;⟨kvs,e _ a,b.imp λ_ _ _ z=>z.fr f⟩
theorem TabAt.same(h:TabAt H p tb)(s:ak H H'):TabAt H' p tb:=h.fr s.fr λ_ e=>s _ _ e
theorem Ff{K:Yu}{a:YN}{xs:List V}(h:ah K H a xs)(f:Fr H H'):ah K H' a xs:=by
 rcases h with (h|⟨o,h⟩)|h
 .exact .inl (.inl (f _ _ (λ_ z=>nomatch z) h))
 .exact .inl (.inr ⟨o,f _ _ (λ_ z=>nomatch z) h⟩)
 .exact .inr h
end
theorem oR(hn:(tb.map (·.1)).Nodup)(h:r∈tb):gR tb r.1=some r.2:=by
 induction tb with
 | nil=>cases h
 | cons x l ih =>
  rw[YW,ZY] at hn;rcases YV.mp h with z|z
  .rw[<- z];simp[gR,aai]
  .have e:¬ x.1=r.1:=λy=>hn.1 (y ▸ YO.mpr ⟨r,z,rfl⟩);have:gR (x::l) r.1=gR l r.1:=by simp[gR,aai,e]
   rw[this,ih hn.2 z]
def lh(e t:Int)(s:P2):Prop:=(0<=s.1/\s.1<e)/\0<=s.2/\s.2<t
instance (e t:Int) (s:P2):Decidable (lh e t s):=by unfold lh;infer_instance
def bL(e t:Int)(tb:Tb):Prop:=(tb.map (·.1)).Nodup/\∀ r∈tb,lh e t r.1
theorem Pg(tb:Tb)(s:P2)(w:S2):(gy tb s w).length<=tb.length+1:=by unfold gy;split<;>simp
theorem bL.put(h:bL e t tb)(hs:lh e t s):bL e t (gy tb s w):=by
 unfold gy;split
 .refine⟨?_,λr hr=>?_⟩
  .have:(tb.map λr=>if r.1=s then (r.1,w) else r).map (·.1)=tb.map (·.1):=by rw[ZG];refine aan λr _=>?_;show (if r.1=s then (r.1,w) else r).1=r.1;split<;>rfl
   rw[this];exact h.1
  .obtain⟨x,hx,rfl⟩:=YO.mp hr;have:=h.2 x hx;split<;>exact this
 .rename_i z;refine⟨?_,λr hr=>?_⟩
  .rw[Zd];refine EJ h.1 λy=>z ?_;obtain⟨x,hx,e⟩:=YO.mp y;rw[ZE];exact⟨x,hx,by simpa using e⟩
  .rcases YX.mp hr with y|y
   .exact h.2 r y
   .rw[YZ.mp y];exact hs
theorem bL.drop(h:bL e t tb):bL e t (j4 tb s) :=
 ⟨h.1.sublist ((aeL).map _),λr hr=>h.2 r (Y8.mp hr).1⟩
theorem bL.nil:bL e t []:=⟨ac6,λr h=>by cases h⟩
noncomputable def jm(tb:Tb):List (List Int):=tb.map λr=>[r.1.1,r.1.2]
noncomputable def lj(tb:Tb):Tb:=bz (jm tb) ((0,0),(none,none)) tb
theorem qH(h:r∈lj tb):r∈tb:=mK.mem_iff.mp h
theorem mR:(lj tb).length=tb.length:=oE
theorem ay.sort(h:ay R xs as):ay R (bz kis .non xs) (bz kis d as):=by
 have hl:=h.len;have hp:=(mI (n:=xs.length) (jX kis)).1;unfold bz;rw[<- hl];have gen:∀ l:List Nat,(∀ i∈l,i<xs.length)->ay R (l.map λi=>xs.getD i .non) (l.map λi=>as.getD i d):=by
  intro l
  induction l with
  | nil=>intro _;exact trivial
  | cons i l ih =>
   intro q;have hi:=q i (.head _);obtain⟨s,es,hs⟩:=h.get (Yx hi);refine⟨?_,ih λj hj=>q j (.tail _ hj)⟩;show R (xs.getD i .non) (as.getD i d);rw[Yv,Yv,es,Yx hi];exact hs
 exact gen _ λi hi=>by simpa using hp.mem_iff.mp hi
theorem ay.bind:∀ {xs:List V} {bs:List β},ay R xs (bs.map f)->ay (λx b=>R x (f b)) xs bs
 | [],[],_=>trivial
 | _::_,_::_,h=>⟨h.1,ay.bind h.2⟩
 | [],_::_,h=>h.elim
 | _::_,[],h=>h.elim
theorem ay.yu:∀ {xs:List V} {bs:List β},ay (λx b=>R x (f b)) xs bs->ay R xs (bs.map f)
 | [],[],_=>trivial
 | _::_,_::_,h=>⟨h.1,ay.yu h.2⟩
 | [],_::_,h=>h.elim
 | _::_,[],h=>h.elim
theorem Ph(h:a8 H kvs tb):kvs.map (·.1)=(jm tb).map λk=>k.map adu:=by rw[h.keys];unfold jm;rw[ZG];rfl
theorem Pj:∀ k∈jm tb,k≠[]:=λk hk=>by
 obtain⟨r,_,rfl⟩:=YO.mp hk;exact λz=>nomatch z
theorem Pk(h:a8 H kvs tb)(hk:gQ H ys kvs):ay (λx (r:P2 × S2)=>dh H x r.1) (bz (jm tb) .non ys) (lj tb):=ay.sort (ay.bind (h.qG hk))
def jn(H:Hp)(v:V)(r:P2 × S2):Prop:=∃ a w,v = .ref a/\H a=some (.tup [.int r.1.1,.int r.1.2,w])/\aG H w r.2.1 r.2.2
theorem jn.same(h:jn H v r)(s:ak H H'):jn H' v r:=let ⟨a,w,e,ha,hw⟩:=h;⟨a,w,e,s _ _ ha,hw.same s⟩
theorem Pl(h:aO a b=true):aO (di a c) (dj b d)=true:=by rcases a with _|x<;>rcases b with _|y<;>rcases c with _|z<;>rcases d with _|w<;>simp[aO,di,dj] at h ⊢<;>lia
noncomputable def aZ(e:S2)(ss:List S2):S2:=ss.foldl (λe s=>(di e.1 s.1,dj e.2 s.2)) e
theorem uT(e s:S2)(ss:List S2):aZ e (s::ss)=aZ (di e.1 s.1,dj e.2 s.2) ss:=rfl
theorem Fg:∀ (ss:List S2) {e:S2},aO e.1 e.2=true->aO (aZ e ss).1 (aZ e ss).2=true
 | [],_,h=>h
 | s::ss,e,h=>by rw[uT];exact Fg ss (Pl h)
theorem Pm(h:aO (aZ e (ss.take i)).1 (aZ e (ss.take i)).2=true):aO (aZ e ss).1 (aZ e ss).2=true:=by
 have:aZ e ss=aZ (aZ e (ss.take i)) (ss.drop i):=by unfold aZ;rw[<- ab7,aaT]
 rw[this];exact Fg _ h
theorem Pn{ss:List S2}{e s:S2}{i:Nat}(h:ss[i]?=some s):aZ e (ss.take (i+1))=(di (aZ e (ss.take i)).1 s.1,dj (aZ e (ss.take i)).2 s.2):=by unfold aZ;rw[aah,h,ab7];rfl
noncomputable def dH(e:S2)(ss:List S2):W2:=if aO (aZ e ss).1 (aZ e ss).2=true then none else some (aZ e ss)
theorem gA:∀ {xs:List V} {ss:List S2},aP H xs ss↔ay (λx s=>aG H x s.1 s.2) xs ss
 | [],[]=>Iff.rfl
 | _::_,_::_=>and_congr Iff.rfl gA
 | [],_::_=>Iff.rfl
 | _::_,[]=>Iff.rfl
abbrev Pa:=Str × Int × S2
def qI(H:Hp)(v:V)(p:Pa):Prop:=∃ (t q:YN),v = .ref t/\H t=some (.tup [.str p.1,.int p.2.1,.ref q])/\H q=some (.tup [ev p.2.2.1,ev p.2.2.2])
theorem qI.same(h:qI H v p)(s:ak H H'):qI H' v p:=let ⟨t,q,e,a,b⟩:=h;⟨t,q,e,s _ _ a,s _ _ b⟩
abbrev iA(H:Hp):List V->List Pa->Prop:=ay (qI H)
theorem iA.same(h:iA H xs ps)(s:ak H H'):iA H' xs ps:=ay.imp (λ_ _ r=>r.same s) h
noncomputable def iB(k:Str)(t:Int)(p:Pa):Bool:=decide (p.1=k) && decide (p.2.1=t)
noncomputable def sel(ps:List Pa)(k:Str)(t:Int):List S2:=(ps.filter (iB k t)).map (·.2.2)
noncomputable def hasB(n:Int)(k:Str)(t:Int):Bool:=if k = "step" then decide (0<=t/\t<n) && decide (0<=t+1/\t+1<n) else decide (k = "at") && decide (0<=t/\t<n)
def iC(n:Int)(ps:List Pa):Prop:=∀ p∈ps,hasB n p.1 p.2.1=true
theorem Po{n t:Int}{k:Str}(h:k ≠ "step"):hasB n k t=true↔k = "at" /\ 0<=t/\t<n:=by unfold hasB;rw[if_neg h];simp only[aak,decide_eq_true_eq]
theorem int_at{cs:List Int}{t:Int}(h0:0<=t)(h1:t<(cs.length:Int)):cE (cs.map V.int) t=some (.int (cs.getD t.toNat 0)):=by
 have e:t=((t.toNat:Nat):Int):=by lia
 refine (congrArg (cE _) e).trans (cF ?_);rw[YF,Yv,Yx (by lia)];rfl
structure Gd(n:Nat)(d:aeY):Prop where
 eqv:aen d d=true
 lay:d.canLay0=true
 dep:d.depth<=n
theorem Gd.str(h:acU x=true):Gd 0 (.str x):=⟨by simp[aen],by simpa [ago] using h,YD _⟩
theorem Gd.all:∀ {ds:List aeY} {n:Nat},(∀ d∈ds,Gd n d)->agM ds ds=true/\afq ds=true/\agh ds<=n
 | [],n,_=>⟨rfl,rfl,Zc _⟩
 | d::ds,n,h=>by obtain⟨a,b,c⟩:=h d (.head _);obtain⟨a',b',c'⟩:=Gd.all (ds:=ds) λx hx=>h x (.tail _ hx);exact⟨by simp only[agM,a,a',agN],by simp only[afq,b,b',agN],by simp only[agh];lia⟩
theorem Gd.lst(h:∀ d∈ds,Gd n d):Gd (n+1) (.list ds):=by obtain⟨a,b,c⟩:=Gd.all h;exact⟨by simpa only [aen] using a,by simpa only [ago] using b,by simp only[PyData.depth];lia⟩
theorem Fh{K:Yu}{H:Hp}{x y:V}{d:aeY}{n:Nat}{neg:Bool}{Q:VK}(hx:Dat K H x d)(hy:Dat K H y d)(g:Gd n d)(hn:n<=60)(q:Q (.bl (!neg)) H):xX K neg x y H Q:=by refine⟨d,d,hx,hy,g.lay,g.lay,YE g.dep hn,?_⟩;rw[g.eqv];cases neg<;>exact q
theorem mS(bT:Ok H):∀ {xs:List V} {as:List α} {ys:List V},ay R xs as ->
 (∀ x a,R x a->∀ Q,Q (p a) H->tt (some x::ρ) H Q)->(∀ x a,p a=true->R x a->∀ Q:VK,(∀ y,R' y (f a)->Q y H)->te (some x::ρ) H Q)->(∀ zs,ay R' zs ((as.filter p).map f)->Q' (ys++zs) H)->dW Ok ρ tt te xs ys H Q'
 | [],[],ys,_,_,_,q=>⟨bT,by simpa using q [] trivial⟩
 | x::xs,a::as,ys,h,ht,he,q=>by
  refine⟨bT,ht x a h.1 _ ?_⟩;by_cases hb:p a=true
  .rw[if_pos hb];refine he x a hb h.1 _ λy ry=>mS bT h.2 ht he λzs hz=>?_;have:=q (y::zs) (by rw[Zs,if_pos hb];exact⟨ry,hz⟩);simpa using this
  .rw[if_neg hb];refine mS bT h.2 ht he λzs hz=>q zs ?_;rw[Zs,if_neg hb];exact hz
 | [],_::_,_,h,_,_,_=>h.elim
 | _::_,[],_,h,_,_,_=>h.elim
theorem Pq{K:Yu}{i j k:Nat}{p:YN}{x y z:V}{σ:L2.St}{H:Hp}{Q:L2.St->Hp->Prop}(h:aj K H p [x,y,z])(q:Q (((σ.set i (some x)).set j (some y)).set k (some z)) H):mj K 3 (dM (cJ i) (dM (cJ j) (dM (cJ k) kH))) (.ref p) σ H Q :=
 ⟨p,_,rfl,h,rfl,_,_,rfl,_,_,rfl,_,_,rfl,rfl,q⟩
end Gz
namespace Gz
open PySem L2
def bF(s:S2)(x:Int):Prop:=(∀ a,s.1=some a->a<=x)/\∀ b,s.2=some b->x<=b
def bP(w:W2)(x:Int):Prop:=∃ s,w=some s/\bF s x
theorem yw:bF s x↔hold s.1 s.2 x=true:=uG.symm
theorem yx:bF (di a.1 b.1,dj a.2 b.2) x↔bF a x/\bF b x:=by obtain⟨a1,a2⟩:=a;obtain⟨b1,b2⟩:=b;unfold bF;rcases a1 with _|p<;>rcases a2 with _|q<;>rcases b1 with _|r<;>rcases b2 with _|s<;>simp[di,dj]<;>(try split)<;>(try split)<;>lia
theorem Fi:∀ {e:S2},bF (aZ e ss) x↔bF e x/\∀ s∈ss,bF s x:=by
 induction ss with
 | nil=>intro e;exact⟨λh=>⟨h,λ_ z=>nomatch z⟩,λh=>h.1⟩
 | cons s ss ih =>
  intro e;rw[uT,ih,yx];simp only[YV,forall_eq_or_imp,and_assoc]
theorem Pr(h:aO s.1 s.2=false):∃ x,bF s x:=by
 obtain⟨a,b⟩:=s;rcases a with _|a<;>rcases b with _|b
 .exact⟨0,λ_ z=>(nomatch z),λ_ z=>(nomatch z)⟩
 .exact⟨b,λ_ z=>(nomatch z),λ_ z=>by cases z;exact ZJ _⟩
 .exact⟨a,λ_ z=>by cases z;exact ZJ _,λ_ z=>(nomatch z)⟩
 .refine⟨a,λ_ z=>by cases z;exact ZJ _,λ_ z=>?_⟩;cases z;simp[aO] at h;exact h
theorem Fj(h:bF s x):aO s.1 s.2=false:=by
 obtain⟨a,b⟩:=s;rcases a with _|a<;>rcases b with _|b
 .rfl
 .rfl
 .rfl
 .have h1:=h.1 a rfl;have h2:=h.2 b rfl;simp[aO];lia
noncomputable def gB(a b:S2):W2:=if aO (di a.1 b.1) (dj a.2 b.2)=true then none else some (di a.1 b.1,dj a.2 b.2)
theorem mT:bP (gB a b) x↔bF a x/\bF b x:=by
 unfold gB;constructor
 .rintro ⟨s,e,h⟩;split at e
  .cases e
  .cases e;exact yx.mp h
 .intro h;have h:=yx.mpr h;rw[if_neg (by rw[Fj h];simp)];exact⟨_,rfl,h⟩
theorem Fl(h:gB a b=some s):aO s.1 s.2=false:=by
 unfold gB at h;split at h
 .cases h
 .rename_i hc;cases h;simpa using hc
theorem mU:bP (dH (none,none) ss) x ↔ ∀ s∈ss,bF s x:=by
 have e0:bF (none,none) x:=⟨λ_ z=>(nomatch z),λ_ z=>(nomatch z)⟩
 unfold dH;constructor
 .rintro ⟨s,e,h⟩;split at e
  .cases e
  .cases e;exact (Fi.mp h).2
 .intro h;have h:=Fi.mpr ⟨e0,h⟩;rw[if_neg (by rw[Fj h];simp)];exact⟨_,rfl,h⟩
noncomputable def dY(s:S2)(p:P2):S2:=(s.1.map (· + p.1),s.2.map (· + p.2))
theorem uU(h:bF s x)(h1:p.1<=y-x)(h2:y-x<=p.2):bF (dY s p) y:=by
 obtain⟨a,b⟩:=s;refine⟨λz e=>?_,λz e=>?_⟩
 .obtain⟨a,ea,rfl⟩:=Zh.mp (show a.map (· + p.1)=some z from e);have:=h.1 a ea;lia
 .obtain⟨b,eb,rfl⟩:=Zh.mp (show b.map (· + p.2)=some z from e);have:=h.2 b eb;lia
theorem Pt(hs:aO s.1 s.2=false)(hp:p.1<=p.2)(h:bF (dY s p) y):∃ x,bF s x/\p.1<=y-x/\y-x<=p.2:=by
 obtain⟨a,b⟩:=s;rcases a with _|a<;>rcases b with _|b
 .exact⟨y-p.1,⟨λ_ z=>(nomatch z),λ_ z=>(nomatch z)⟩,by lia,by lia⟩
 .have h2:=h.2 (b+p.2) rfl;exact⟨y-p.2,⟨λ_ z=>(nomatch z),λ_ z=>by cases z;lia⟩,by lia,by lia⟩
 .have h1:=h.1 (a+p.1) rfl;exact⟨y-p.1,⟨λ_ z=>by cases z;lia,λ_ z=>(nomatch z)⟩,by lia,by lia⟩
 .have h1:=h.1 (a+p.1) rfl;have h2:=h.2 (b+p.2) rfl;simp[aO] at hs;by_cases hc:a<=y-p.2
  .exact⟨y-p.2,⟨λ_ z=>by cases z;lia,λ_ z=>by cases z;lia⟩,by lia,by lia⟩
  .exact⟨a,⟨λ_ z=>by cases z;lia,λ_ z=>by cases z;lia⟩,by lia,by lia⟩
noncomputable def aS(bx:Nat->W2)(st:Nat->P2):Nat->W2
 | 0=>bx 0
 | t+1=>match bx (t+1),aS bx st t with
  | some b,some k=>gB b (dY k (st t))
  | _,_=>none
def mV(w:W2):Prop:=∀ s,w=some s->aO s.1 s.2=false
theorem uV(h0:mV (bx 0)):∀ t,mV (aS bx st t)
 | 0=>h0
 | t+1=>λs e=>by
  unfold aS at e;split at e
  .exact Fl e
  .cases e
theorem Fo(h:aS bx st (t+1)=some s):∃ b k,bx (t+1)=some b/\aS bx st t=some k/\gB b (dY k (st t))=some s:=by
 unfold aS at h;split at h
 .rename_i b k e1 e2;exact⟨b,k,e1,e2,h⟩
 .cases h
theorem uW{bx:Nat->W2}{st:Nat->P2}{c:Nat->Int}{n:Nat}(hb:∀ t,t<=n->bP (bx t) (c t))(hs:∀ t,t<n->(st t).1<=c (t+1)-c t/\c (t+1)-c t<=(st t).2):∀ t,t<=n->bP (aS bx st t) (c t)
 | 0,h=>hb 0 h
 | t+1,h=>by obtain⟨k,ek,hk⟩:=uW hb hs t (by lia);obtain⟨b,eb,yy⟩:=hb (t+1) h;obtain⟨h1,h2⟩:=hs t (by lia);unfold aS;rw[eb,ek];exact mT.mpr ⟨yy,uU hk h1 h2⟩
theorem uX:∀ {t:Nat},bP (aS bx st t) x->bP (bx t) x
 | 0,h=>h
 | t+1,⟨s,e,h⟩=>by obtain⟨b,k,e1,_,e3⟩:=Fo e;exact⟨b,e1,(mT.mp ⟨s,e3,h⟩).1⟩
theorem yz(h0:mV (bx 0))(hp:(st t).1<=(st t).2)(h:bP (aS bx st (t+1)) y):∃ x,bP (aS bx st t) x/\(st t).1<=y-x/\y-x<=(st t).2:=by obtain⟨s,e,h⟩:=h;obtain⟨b,k,_,e2,e3⟩:=Fo e;obtain⟨x,hx,h1,h2⟩:=Pt (uV h0 t k e2) hp (mT.mp ⟨s,e3,h⟩).2;exact⟨x,⟨k,e2,hx⟩,h1,h2⟩
noncomputable def dZ(n:Nat)(st:Nat->P2)(t:Nat):P2:=(-(st (n-1-t)).2,-(st (n-1-t)).1)
noncomputable def cj(n:Nat)(bx:Nat->W2)(st:Nat->P2)(t:Nat):W2:=aS (λk=>aS bx st (n-k)) (dZ n st) (n-t)
structure mW(n:Nat)(bx:Nat->W2)(st:Nat->P2):Prop where
 ok:∀ t,t<=n->∃ s,cj n bx st t=some s/\aO s.1 s.2=false
 sub:∀ t x,t<=n->bP (cj n bx st t) x->bP (bx t) x
 next:∀ t x,t<n->bP (cj n bx st t) x->∃ y,bP (cj n bx st (t+1)) y/\(st t).1<=y-x/\y-x<=(st t).2
theorem Pu(h0:mV (bx 0))(hp:∀ t,t<n->(st t).1<=(st t).2)(hf:∀ t,t<=n->aS bx st t≠none):mW n bx st:=by
 have yA:=uV (st:=st) h0;have Pw:∀ k,k<=n->∃ s,aS (λk=>aS bx st (n-k)) (dZ n st) k=some s:=by
  intro k
  induction k with
  | zero =>
   intro _;obtain⟨s,e⟩:=acQ.mp (hf n (YD _));exact⟨s,e⟩
  | succ k ih =>
   intro hk;obtain⟨s,e⟩:=ih (by lia);obtain⟨y,hy⟩:=Pr (uV (bx:=λk=>aS bx st (n-k)) (yA n) k s e);have Fp:bP (aS bx st (n-k)) y:=uX (bx:=λk=>aS bx st (n-k)) ⟨s,e,hy⟩;rw[show n-k=n-(k+1)+1 by lia] at Fp;obtain⟨x,⟨f,ef,hx⟩,h1,h2⟩:=yz h0 (hp _ (by lia)) Fp;have em:n-1-k=n-(k+1):=by lia
   have hm:bF (dY s (dZ n st k)) x:=uU hy (by unfold dZ;rw[em];dsimp only;lia) (by unfold dZ;rw[em];dsimp only;lia);obtain⟨z,ez,_⟩:=mT.mpr ⟨hx,hm⟩;refine⟨z,?_⟩;unfold aS;rw[e];show (match aS bx st (n-(k+1)),some s with
    | some b,some Px=>gB b (dY Px (dZ n st k))
    | _,_=>none)=some z
   rw[ef];exact ez
 refine⟨λt ht=>?_,λt x ht h=>?_,λt x ht h=>?_⟩
 .obtain⟨s,e⟩:=Pw (n-t) (by lia);exact⟨s,e,uV (bx:=λk=>aS bx st (n-k)) (yA n) _ s e⟩
 .have:=uX (bx:=λk=>aS bx st (n-k)) h;rw[show n-(n-t)=t by lia] at this;exact uX this
 .unfold cj at h;rw[show n-t=n-(t+1)+1 by lia] at h;have hb:(dZ n st (n-(t+1))).1<=(dZ n st (n-(t+1))).2:=by unfold dZ;have:=hp (n-1-(n-(t+1))) (by lia);dsimp only;lia
  obtain⟨y,hy,h1,h2⟩:=yz (bx:=λk=>aS bx st (n-k)) (yA n) hb h;have em:n-1-(n-(t+1))=t:=by lia
  unfold dZ at h1 h2;rw[em] at h1 h2;dsimp only at h1 h2;exact⟨y,hy,by lia,by lia⟩
def d8(ps:List P2)(c:Nat->Int):Prop:=∀ k,k<ps.length->(aB ps k).1<=c (k+1)-c k/\c (k+1)-c k<=(aB ps k).2
theorem yB(h:d8 ps c):∀ n,i+n<=ps.length->pre (·.1) ps (i+n)-pre (·.1) ps i<=c (i+n)-c i/\c (i+n)-c i<=pre (·.2) ps (i+n)-pre (·.2) ps i
 | 0,_=>by simp
 | n+1,hn=>by have ih:=yB h (i:=i) n (by lia);have hk:=h (i+n) (by lia);rw[show i+(n+1)=(i+n)+1 by lia,fT _ ps (by lia),fT _ ps (by lia)];lia
theorem Py(h:d8 ps c)(hi:i<=ps.length)(hj:j<=ps.length):c j-c i<=bA ps i j:=by
 unfold bA;split
 .have:=(yB h (i:=i) (j-i) (by lia)).2
  rwa [show i+(j-i)=j by lia] at this
 .have:=(yB h (i:=j) (i-j) (by lia)).1;rw[show j+(i-j)=i by lia] at this;lia
abbrev Mk:=Nat × S2
def meets(ms:List Mk)(c:Nat->Int):Prop:=∀ m∈ms,bF m.2 (c m.1)
structure j5(ps:List P2)(ms:List Mk)(tp:Nat->Option P2):Prop where
 val:∀ t v k,t<=ps.length->tp t=some (v,k)->∃ (i:Nat) (m:Mk) (h:Int),k=(i:Int)/\ms[i]?=some m/\m.2.2=some h/\h+bA ps m.1 t<=v
 top:∀ m∈ms,∀ h,m.2.2=some h->∃ v k,tp m.1=some (v,k)/\v<=h
 fwd:∀ t v k,t<ps.length->tp t=some (v,k)->∃ v' k',tp (t+1)=some (v',k')/\v'<=v+(aB ps t).2
 bwd:∀ t v k,t<ps.length->tp (t+1)=some (v,k)->∃ v' k',tp t=some (v',k')/\v'<=v-(aB ps t).1
def qJ(ms:List Mk)(tp:Nat->Option P2):Prop:=∀ m∈ms,∀ l v k,m.2.1=some l->tp m.1=some (v,k)->l<=v
theorem Pz(hp:cS ps)(hm:∀ m∈ms,m.1<=ps.length)(T:j5 ps ms tp)(hn:qJ ms tp):∃ c,d8 ps c/\meets ms c:=by
 by_cases h0:tp 0=none
 .have PB:∀ t,t<=ps.length->tp t=none:=by
   intro t
   induction t with
   | zero=>intro _;exact h0
   | succ t ih =>
    intro ht;cases e:tp (t+1) with
    | none=>rfl
    | some q =>
     obtain⟨v,k⟩:=q;obtain⟨v',k',e',_⟩:=T.bwd t v k (by lia) e;rw[ih (by lia)] at e';cases e'
  have PD:∀ m∈ms,m.2.2=none:=λm cv=>by
   cases e:m.2.2 with
   | none=>rfl
   | some h =>
    obtain⟨v,k,e',_⟩:=T.top m cv h e;rw[PB m.1 (hm m cv)] at e';cases e'
  have big:∀ (l:List Mk),∃ M:Int,∀ m∈l,∀ a,m.2.1=some a->a<=M+pre (·.1) ps m.1:=by
   intro l
   induction l with
   | nil=>exact⟨0,λ_ z=>nomatch z⟩
   | cons m l ih =>
    obtain⟨M,hM⟩:=ih;cases e:m.2.1 with
    | none =>
     refine⟨M,λq hq a ha=>?_⟩;rcases YV.mp hq with rfl|hq
     .rw[e] at ha;cases ha
     .exact hM q hq a ha
    | some b =>
     refine⟨if M<=b-pre (·.1) ps m.1 then b-pre (·.1) ps m.1 else M,λq hq a ha=>?_⟩;rcases YV.mp hq with rfl|hq
     .rw[e] at ha;cases ha;split<;>lia
     .have:=hM q hq a ha;split<;>lia
  obtain⟨M,hM⟩:=big ms;refine⟨λt=>M+pre (·.1) ps t,λk hk=>?_,λm cv=>⟨λa ha=>hM m cv a ha,λb hb=>?_⟩⟩
  .have:=hp _ (mH hk);dsimp only;rw[fT _ ps hk];lia
  .rw[PD m cv] at hb;cases hb
 .have Fq:∀ t,t<=ps.length->∃ v k,tp t=some (v,k):=by
   intro t
   induction t with
   | zero =>
    intro _;obtain⟨⟨v,k⟩,e⟩:=acQ.mp h0;exact⟨v,k,e⟩
   | succ t ih =>
    intro ht;obtain⟨v,k,e⟩:=ih (by lia);obtain⟨v',k',e',_⟩:=T.fwd t v k (by lia) e;exact⟨v',k',e'⟩
  refine⟨λt=>((tp t).map (·.1)).getD 0,λk hk=>?_,λm cv=>⟨λa ha=>?_,λb hb=>?_⟩⟩
  .obtain⟨v,q,e⟩:=Fq k (by lia);obtain⟨v',q',e',h1⟩:=T.fwd k v q hk e;obtain⟨v2,q2,e2,h2⟩:=T.bwd k v' q' hk e';rw[e] at e2;cases e2;dsimp only;rw[e,e'];simp only[Option.map_some,abF];lia
  .obtain⟨v,q,e⟩:=Fq m.1 (hm m cv);have:=hn m cv a v q ha e;dsimp only;rw[e];exact this
  .obtain⟨v,q,e,h1⟩:=T.top m cv b hb;dsimp only;rw[e];exact h1
def clash(ps:List P2)(a b:Mk):Prop:=∃ h l,a.2.2=some h/\b.2.1=some l/\h+bA ps a.1 b.1<l
theorem PF(hc:d8 ps c)(hm:meets ms c)(ht:∀ m∈ms,m.1<=ps.length)(ha:a∈ms)(hb:b∈ms):¬ clash ps a b:=by rintro ⟨h,l,e1,e2,aU⟩;have h1:=(hm a ha).2 h e1;have h2:=(hm b hb).1 l e2;have h3:=Py hc (ht a ha) (ht b hb);lia
noncomputable def e9(a b:P2):Bool:=decide (a.1<b.1) || (decide (a.1=b.1) && decide (a.2<b.2))
noncomputable def fb(a b:P2):P2:=if e9 b a=true then b else a
noncomputable def jo:Option P2->Option P2->Option P2
 | none,b=>b
 | some a,none=>some a
 | some a,some b=>some (fb a b)
theorem yC(a b:P2):(fb a b=a∨fb a b=b)/\(fb a b).1<=a.1/\(fb a b).1<=b.1:=by
 unfold fb e9;split
 .rename_i h;simp only[abT,aak,decide_eq_true_eq] at h;exact⟨.inr rfl,by lia,by lia⟩
 .rename_i h;simp only[abT,aak,decide_eq_true_eq,not_or,not_and] at h;exact⟨.inl rfl,by lia,by lia⟩
theorem Fs(a b:Option P2):jo a b=a∨jo a b=b:=by
 rcases a with _|a<;>rcases b with _|b
 .exact .inl rfl
 .exact .inr rfl
 .exact .inl rfl
 .show some (fb a b)=some a∨some (fb a b)=some b;rcases (yC a b).1 with h|h<;>rw[h]
  .exact .inl rfl
  .exact .inr rfl
def eL(a:Option P2)(v:Int):Prop:=∃ w k,a=some (w,k)/\w<=v
theorem PH(h:eL a v):eL (jo a b) v:=by
 obtain⟨w,k,rfl,hw⟩:=h;rcases b with _|b
 .exact⟨w,k,rfl,hw⟩
 .have:=(yC (w,k) b).2.1;exact⟨(fb (w,k) b).1,(fb (w,k) b).2,rfl,by dsimp only at this;lia⟩
theorem yD(h:eL b v):eL (jo a b) v:=by
 obtain⟨w,k,rfl,hw⟩:=h;rcases a with _|a
 .exact⟨w,k,rfl,hw⟩
 .have:=(yC a (w,k)).2.2;exact⟨(fb a (w,k)).1,(fb a (w,k)).2,rfl,by dsimp only at this;lia⟩
noncomputable def oT(a:Option P2)(PJ:Int):Option P2:=a.map λq=>(q.1+PJ,q.2)
theorem Ft(h:eL a v):eL (oT a b) (v+b):=by obtain⟨w,k,rfl,hw⟩:=h;exact⟨w+b,k,rfl,by lia⟩
def fX(ps:List P2)(ms:List Mk)(t:Nat)(a:Option P2):Prop:=∀ v k,a=some (v,k)->∃ (i:Nat) (m:Mk) (h:Int),k=(i:Int)/\ms[i]?=some m/\m.2.2=some h/\h+bA ps m.1 t<=v
theorem fX.yE(ha:fX ps ms t a)(hb:fX ps ms t b):fX ps ms t (jo a b):=by
 rcases Fs a b with h|h<;>rw[h]
 .exact ha
 .exact hb
theorem PK(ps:List P2)(t:Nat):bA ps t t=0:=by unfold bA;rw[if_pos (YD _)];lia
theorem PL(h:t<ps.length):bA ps t (t+1)=(aB ps t).2:=by unfold bA;rw[if_pos (acA _),fT _ ps h];lia
theorem PM(h:t<ps.length):bA ps (t+1) t = -(aB ps t).1:=by unfold bA;rw[if_neg (by lia),fT _ ps h];lia
theorem fX.lift(hp:cS ps)(hm:∀ m∈ms,m.1<=ps.length)(ht:t<=ps.length)(hu:u<=ps.length)(hb:bA ps t u=b)(h:fX ps ms t a):fX ps ms u (oT a b):=by intro v k e;obtain⟨⟨w,q⟩,ea,e⟩:=Zh.mp e;cases e;obtain⟨i,m,x,e1,e2,e3,hx⟩:=h w q ea;refine⟨i,m,x,e1,e2,e3,?_⟩;have:=OJ hp (hm m (Y6 e2)) hu ht;dsimp only;lia
noncomputable def jq(tp:Nat->Option P2)(i:Nat)(x:Option P2):Nat->Option P2:=λt=>if t=i then x else tp t
theorem mX:jq tp i x i=x:=if_pos rfl
theorem j6(h:t≠i):jq tp i x t=tp t:=if_neg h
theorem Fu(h:∀ t,t<=ps.length->fX ps ms t (tp t))(hx:fX ps ms i x):∀ t,t<=ps.length->fX ps ms t (jq tp i x t):=λt ht=>by
 by_cases e:t=i
 .subst e;rw[mX];exact hx
 .rw[j6 e];exact h t ht
theorem uY(h:eL (tp t) v):eL (jq tp i (jo (tp i) b) t) v:=by
 by_cases e:t=i
 .subst e;rw[mX];exact PH h
 .rw[j6 e];exact h
structure T1(ps:List P2)(ms:List Mk)(j:Nat)(tp:Nat->Option P2):Prop where
 val:∀ t,t<=ps.length->fX ps ms t (tp t)
 top:∀ m∈ms.take j,∀ h,m.2.2=some h->eL (tp m.1) h
theorem T1.nil:T1 ps ms 0 λ_=>none:=⟨λ_ _ _ _ e=>(nomatch e),λ_ h=>by simp at h⟩
theorem T1.skip(T:T1 ps ms j tp)(hm:ms[j]?=some m)(hn:m.2.2=none):T1 ps ms (j+1) tp:=⟨T.val,λq hq h e=>by
 rw[aah,hm] at hq;rcases YX.mp hq with z|z
 .exact T.top q z h e
 .obtain rfl:q=m:=by simpa using z
  rw[hn] at e;cases e⟩
theorem T1.put(T:T1 ps ms j tp)(hm:ms[j]?=some m)(hh:m.2.2=some h):T1 ps ms (j+1) (jq tp m.1 (jo (tp m.1) (some (h,(j:Int))))):=by
 have hv:fX ps ms m.1 (some (h,(j:Int))):=λv k e=>by cases e;exact⟨j,m,h,rfl,hm,hh,by rw[PK];lia⟩
 refine⟨λt ht=>?_,λq hq x e=>?_⟩
 .by_cases e:t=m.1
  .subst e;rw[mX];exact (T.val _ ht).yE hv
  .rw[j6 e];exact T.val t ht
 .rw[aah,hm] at hq;rcases YX.mp hq with z|z
  .exact uY (T.top q z x e)
  .obtain rfl:q=m:=by simpa using z
   rw[hh] at e;cases e;rw[mX];exact yD ⟨h,j,rfl,ZJ _⟩
structure T2(ps:List P2)(ms:List Mk)(j:Nat)(tp:Nat->Option P2):Prop where
 val:∀ t,t<=ps.length->fX ps ms t (tp t)
 top:∀ m∈ms,∀ h,m.2.2=some h->eL (tp m.1) h
 fwd:∀ t,t<j->∀ v,eL (tp t) v->eL (tp (t+1)) (v+(aB ps t).2)
theorem T1.two(T:T1 ps ms ms.length tp):T2 ps ms 0 tp:=⟨T.val,λm h=>T.top m (by rw[aaz];exact h),λ_ h=>absurd h (aat _)⟩
theorem T2.step(hp:cS ps)(hm:∀ m∈ms,m.1<=ps.length)(hj:j<ps.length)(T:T2 ps ms j tp):T2 ps ms (j+1) (jq tp (j+1) (jo (tp (j+1)) (oT (tp j) (aB ps j).2))):=by
 refine⟨Fu T.val ((T.val _ (by lia)).yE ((T.val j (by lia)).lift hp hm (by lia) (by lia) (PL hj))),λm h x e=>uY (T.top m h x e),λt ht v hv=>?_⟩;rw[j6 (by lia)] at hv;by_cases e:t=j
 .subst e;rw[mX];exact yD (Ft hv)
 .rw[j6 (by lia)];exact T.fwd t (by lia) v hv
structure T3(ps:List P2)(ms:List Mk)(j:Nat)(tp:Nat->Option P2):Prop where
 val:∀ t,t<=ps.length->fX ps ms t (tp t)
 top:∀ m∈ms,∀ h,m.2.2=some h->eL (tp m.1) h
 fwd:∀ t,t<ps.length->∀ v,eL (tp t) v->eL (tp (t+1)) (v+(aB ps t).2)
 bwd:∀ t,j<=t->t<ps.length->∀ v,eL (tp (t+1)) v->eL (tp t) (v-(aB ps t).1)
theorem T2.three(T:T2 ps ms ps.length tp):T3 ps ms ps.length tp:=⟨T.val,T.top,T.fwd,λt h1 h2=>absurd h2 (by lia)⟩
theorem T3.step(hp:cS ps)(hm:∀ m∈ms,m.1<=ps.length)(hj:j<ps.length)(T:T3 ps ms (j+1) tp):T3 ps ms j (jq tp j (jo (tp j) (oT (tp (j+1)) (-(aB ps j).1)))):=by
 have h1:=hp _ (mH hj);refine⟨Fu T.val ((T.val _ (by lia)).yE ((T.val (j+1) (by lia)).lift hp hm (by lia) (by lia) (PM hj))),λm h x e=>uY (T.top m h x e),λt ht v hv=>?_,λt h2 h3 v hv=>?_⟩
 .by_cases e:t=j
  .subst e;rw[mX] at hv;rw[j6 (by lia)];rcases Fs (tp t) (oT (tp (t+1)) (-(aB ps t).1)) with z|z
   .rw[z] at hv;exact T.fwd t ht v hv
   .rw[z] at hv;obtain⟨w,k,e,hw⟩:=hv;obtain⟨⟨w',k'⟩,e1,e2⟩:=Zh.mp e;cases e2;exact⟨w',k',e1,by dsimp only at hw;lia⟩
  .rw[j6 e] at hv;exact uY (T.fwd t ht v hv)
 .rw[j6 (by lia)] at hv;by_cases e:t=j
  .subst e;rw[mX];refine yD ?_;have:=Ft (b:=-(aB ps t).1) hv
   rwa [show v + -(aB ps t).1=v-(aB ps t).1 by lia] at this
  .rw[j6 e];exact T.bwd t (by lia) h3 v hv
theorem T3.tops(T:T3 ps ms 0 tp):j5 ps ms tp :=
 ⟨λt v k ht e=>T.val t ht v k e,T.top,λt v k ht e=>T.fwd t ht v ⟨v,k,e,ZJ _⟩,λt v k ht e=>T.bwd t (Zc _) ht v ⟨v,k,e,ZJ _⟩⟩
theorem j5.clash(T:j5 ps ms tp)(hb:b.1<=ps.length)(e:tp b.1=some (v,k))(hl:b.2.1=some l)(hv:v<l):∃ (i:Nat) (a:Mk),k=(i:Int)/\ms[i]?=some a/\clash ps a b:=by obtain⟨i,m,h,e1,e2,e3,h4⟩:=T.val _ v k hb e;exact⟨i,m,e1,e2,h,l,e3,hl,by lia⟩
theorem yF:∀ t,(∀ k,k<=t->bx k=PN k)->(∀ k,k<t->st k=b0 k)->aS bx st t=aS PN b0 t
 | 0,h,_=>h 0 (YD _)
 | t+1,h,hs=>by unfold aS;rw[h (t+1) (YD _),yF t (λk hk=>h k (by lia)) (λk hk=>hs k (by lia)),hs t (by lia)]
noncomputable def eM(ws:List W2)(t:Nat):W2:=ws.getD t none
noncomputable def bc(ss:List S2)(t:Nat):S2:=ss.getD t (none,none)
noncomputable def atT(ms:List Mk)(t:Nat):List S2:=(ms.filter λm=>decide (m.1=t)).map (·.2)
noncomputable def bB(ms:List Mk)(t:Nat):W2:=dH (none,none) (atT ms t)
theorem yG:bP (bB ms t) x ↔ ∀ m∈ms,m.1=t->bF m.2 x:=by
 unfold bB;rw[mU];unfold atT;constructor
 .intro h m hm e;exact h _ (YO.mpr ⟨m,Y8.mpr ⟨hm,by simpa using e⟩,rfl⟩)
 .intro h s hs;obtain⟨m,hm,rfl⟩:=YO.mp hs;obtain⟨h1,h2⟩:=Y8.mp hm;exact h m h1 (by simpa using h2)
theorem Fv(ms:List Mk)(t:Nat):mV (bB ms t):=λs e=>by
 unfold bB dH at e;split at e
 .cases e
 .rename_i h;cases e;simpa using h
theorem Fw(hc:d8 ps c)(hm:meets ms c):∀ t,t<=ps.length->aS (bB ms) (aB ps) t≠none:=λt ht e=>by obtain⟨s,es,_⟩:=uW (bx:=bB ms) (st:=aB ps) (c:=c) (n:=ps.length) (λt _=>yG.mpr λm cv e=>by rw[<- e];exact hm m cv) (λt ht=>hc t ht) t ht;rw[e] at es;cases es
theorem yH(hp:cS ps)(hf:∀ t,t<=ps.length->aS (bB ms) (aB ps) t≠none):mW ps.length (bB ms) (aB ps):=Pu (Fv ms 0) (λt ht=>hp _ (mH ht)) hf
noncomputable def j7(ps:List P2):List P2:=ps.reverse.map λp=>(-p.2,-p.1)
theorem PQ(h:t<ps.length):aB (j7 ps) t=dZ ps.length (aB ps) t:=by unfold j7 dZ aB;rw[Yv,YF,aaR h,Yv,Yx (by lia)];rfl
theorem back_eq(hl:ss.length=ps.length+1)(h:∀ t,t<ps.length+1->aS (bB ms) (aB ps) t=some (bc ss t))(ht:t<=ps.length):aS (eM (ss.reverse.map some)) (aB (j7 ps)) t=cj ps.length (bB ms) (aB ps) (ps.length-t):=by unfold cj;rw[show ps.length-(ps.length-t)=t by lia];refine yF t (λk hk=>?_) λk hk=>PQ (by lia);rw[h (ps.length-k) (by lia)];unfold eM bc;rw[Yv,YF,aaR (by lia),hl,show ps.length+1-1-k=ps.length-k by lia,Yv,Yx (by lia)];rfl
theorem PR(hl:ss.length=n+1)(ht:t<=n):bc ss.reverse t=bc ss (n-t):=by unfold bc;rw[Yv,aaR (by lia),Yv,hl,show n+1-1-t=n-t by lia]
theorem PU(T:mW ps.length (bB ms) (aB ps))(ht:t<ps.length)(hx:bP (cj ps.length (bB ms) (aB ps) t) x)(hs:cj ps.length (bB ms) (aB ps) (t+1)=some s):∃ r,gB s (dY (some x,some x) (aB ps t))=some r/\∀ y,bF r y->bP (cj ps.length (bB ms) (aB ps) (t+1)) y/\(aB ps t).1<=y-x/\y-x<=(aB ps t).2:=by
 obtain⟨y,⟨s',e',hy⟩,h1,h2⟩:=T.next t x ht hx
 rw[hs] at e';cases e';have xx:bF (some x,some x) x:=⟨λ_ z=>by cases z;exact ZJ _,λ_ z=>by cases z;exact ZJ _⟩
 obtain⟨r,er,_⟩:=mT.mpr ⟨hy,uU xx h1 h2⟩;refine⟨r,er,λz hz=>?_⟩;obtain⟨z1,z2⟩:=mT.mp ⟨r,er,hz⟩;refine⟨⟨s,hs,z1⟩,?_⟩;have a:=z2.1 (x+(aB ps t).1) rfl;have b:=z2.2 (x+(aB ps t).2) rfl;lia
noncomputable def bM(cs:List Int)(t:Nat):Int:=cs.getD t 0
theorem meets_of(T:mW ps.length (bB ms) (aB ps))(hm:∀ m∈ms,m.1<=ps.length)(h:∀ t,t<=ps.length->bP (cj ps.length (bB ms) (aB ps) t) (c t)):meets ms c:=λm cv=>yG.mp (T.sub _ _ (hm m cv) (h _ (hm m cv))) m cv rfl
noncomputable def dk(ts:List (Option P2))(t:Nat):Option P2:=ts.getD t none
theorem PV(h:i<ts.length):dk (ts.set i x)=jq (dk ts) i x:=by
 funext t;unfold dk jq;rw[Yv,List.getElem?_set];by_cases e:t=i
 .subst e;rw[if_pos rfl,if_pos rfl,if_pos h];rfl
 .rw[if_neg (λz=>e z.symm),if_neg e];exact (Yv ..).symm
theorem PX(n:Nat):dk (Zp n none)=λ_=>none:=by funext t;unfold dk;rw[Yv,Z0];split<;>rfl
theorem PY(h0:mV (bx 0))(hp:∀ t,t<n->(st t).1<=(st t).2)(ht:t<n)(h:bP (cj n bx st (t+1)) y)(hs:∃ s,cj n bx st t=some s):∃ x,bP (cj n bx st t) x/\(st t).1<=y-x/\y-x<=(st t).2:=by
 have hf:bP (aS bx st (t+1)) y:=by
  have:=uX (bx:=λk=>aS bx st (n-k)) h
  rwa [show n-(n-(t+1))=t+1 by lia] at this
 obtain⟨x,hx,h1,h2⟩:=yz h0 (hp t ht) hf;refine⟨x,?_,h1,h2⟩;obtain⟨k,ek,hk⟩:=h;obtain⟨f,ef,hxf⟩:=hx;unfold cj at ek ⊢;rw[show n-t=n-(t+1)+1 by lia];show bP (match aS bx st (n-(n-(t+1)+1)),aS (λk=>aS bx st (n-k)) (dZ n st) (n-(t+1)) with
  | some b,some k=>gB b (dY k (dZ n st (n-(t+1))))
  | _,_=>none) x
 rw[ek,show n-(n-(t+1)+1)=t by lia,ef];refine mT.mpr ⟨hxf,uU hk ?_ ?_⟩
 .unfold dZ;rw[show n-1-(n-(t+1))=t by lia];dsimp only;lia
 .unfold dZ;rw[show n-1-(n-(t+1))=t by lia];dsimp only;lia
theorem Fx(T:mW n bx st):∀ (d t:Nat) (x:Int),t+d=n->bP (cj n bx st t) x->∃ c:Nat->Int,c t=x/\(∀ k,t<=k->k<=n->bP (cj n bx st k) (c k))/\∀ k,t<=k->k<n->(st k).1<=c (k+1)-c k/\c (k+1)-c k<=(st k).2
 | 0,t,x,e,h=>⟨λ_=>x,rfl,λk h1 h2=>by rw[show k=t by lia];exact h,λk h1 h2=>absurd h2 (by lia)⟩
 | d+1,t,x,e,h=>by
  obtain⟨y,hy,h1,h2⟩:=T.next t x (by lia) h
  obtain⟨c,c0,c1,c2⟩:=Fx T d (t+1) y (by lia) hy;refine⟨λk=>if k=t then x else c k,if_pos rfl,λk k1 k2=>?_,λk k1 k2=>?_⟩
  .dsimp only;by_cases ek:k=t
   .rw[if_pos ek,ek];exact h
   .rw[if_neg ek];exact c1 k (by lia) k2
  .dsimp only;rw[if_neg (show ¬ k+1=t by lia)];by_cases ek:k=t
   .rw[if_pos ek,ek,c0];exact⟨h1,h2⟩
   .rw[if_neg ek];exact c2 k (by lia) k2
theorem Fy(h0:mV (bx 0))(hp:∀ t,t<n->(st t).1<=(st t).2)(T:mW n bx st):∀ (t:Nat) (x:Int),t<=n->bP (cj n bx st t) x->∃ c:Nat->Int,c t=x/\(∀ k,k<=t->bP (cj n bx st k) (c k))/\∀ k,k<t->(st k).1<=c (k+1)-c k/\c (k+1)-c k<=(st k).2
 | 0,x,_,h=>⟨λ_=>x,rfl,λk h1=>by rw[show k=0 by lia];exact h,λk h1=>absurd h1 (by lia)⟩
 | t+1,x,ht,h=>by
  obtain⟨s,es,_⟩:=T.ok t (by lia);obtain⟨y,hy,h1,h2⟩:=PY h0 hp (by lia) h ⟨s,es⟩;obtain⟨c,c0,c1,c2⟩:=Fy h0 hp T t y (by lia) hy;refine⟨λk=>if k=t+1 then x else c k,if_pos rfl,λk k1=>?_,λk k1=>?_⟩
  .dsimp only;by_cases ek:k=t+1
   .rw[if_pos ek,ek];exact h
   .rw[if_neg ek];exact c1 k (by lia)
  .dsimp only;rw[if_neg (show ¬ k=t+1 by lia)];by_cases ek:k=t
   .rw[ek,if_pos rfl,c0];exact⟨h1,h2⟩
   .rw[if_neg (by lia)];exact c2 k (by lia)
theorem PZ(hp:cS ps)(hm:∀ m∈ms,m.1<=ps.length)(T:mW ps.length (bB ms) (aB ps))(ht:t<=ps.length)(h:bP (cj ps.length (bB ms) (aB ps) t) x):∃ c,d8 ps c/\meets ms c/\c t=x:=by
 obtain⟨c,c0,c1,c2⟩:=Fx T (ps.length-t) t x (by lia) h;obtain⟨d,d0,d1,d2⟩:=Fy (Fv ms 0) (λt ht=>hp _ (mH ht)) T t x ht h;refine⟨λk=>if k<=t then d k else c k,λk hk=>?_,meets_of T hm λk hk=>?_,?_⟩
 .dsimp only;by_cases e1:k<t
  .rw[if_pos (by lia),if_pos (by lia)];exact d2 k e1
  .by_cases e2:k=t
   .subst e2;rw[if_neg (by lia),if_pos (by lia),d0,<- c0];exact c2 k (by lia) hk
   .rw[if_neg (by lia),if_neg (by lia)];exact c2 k (by lia) hk
 .by_cases e:k<=t
  .rw[if_pos e];exact d1 k e
  .rw[if_neg e];exact c1 k (by lia) hk
 .dsimp only;rw[if_pos (YD _)];exact d0
theorem P5(hc:d8 ps c)(hm:meets ms c)(ht:t<=ps.length):bP (cj ps.length (bB ms) (aB ps) t) (c t):=by
 have f:=uW (bx:=bB ms) (st:=aB ps) (c:=c) (n:=ps.length) (λt _=>yG.mpr λm cv e=>by rw[<- e];exact hm m cv) (λt ht=>hc t ht);have b:=uW (bx:=λk=>aS (bB ms) (aB ps) (ps.length-k)) (st:=dZ ps.length (aB ps)) (c:=λk=>c (ps.length-k)) (n:=ps.length) (λk hk=>f _ (by lia)) (λk hk=>by
  have:=hc (ps.length-1-k) (by lia);unfold dZ;rw[show ps.length-1-k+1=ps.length-k by lia] at this;rw[show ps.length-(k+1)=ps.length-1-k by lia];lia) (ps.length-t) (by lia)
 have e:ps.length-(ps.length-t)=t:=by lia
 unfold cj;rw[e] at b;exact b
end Gz
namespace Gz
open PySem PySem.Spec PyProof.Rows L2
noncomputable def rowOf(H:Hp):V->List V
 | .ref p=>match H p with
  | some (.tup xs)=>xs
  | _=>[]
 | _=>[]
theorem qK(h:H p=some (.tup xs)):rowOf H (.ref p)=xs:=by
 show (match H p with
  | some (.tup xs)=>xs
  | _=>[])=xs
 rw[h]
def mY(row:V->List V)(tt:TT):TT:=λσ H Q=>match σ with
 | some v::ρ=>tt ((row v).map some++ρ) H Q
 | _=>False
def mZ(row:V->List V)(te:TE):TE:=λσ H Q=>match σ with
 | some v::ρ=>te ((row v).map some++ρ) H Q
 | _=>False
section
variable{K:Yu}{ρ:L2.St}{tt:TT}{te:TE}{H:Hp}{Q:VK}{a:YN}{xs:List V}{row:V->List V}
def qL(K:Yu)(a:YN)(xs:List V)(row:V->List V)(k:Nat)(H:Hp):Prop:=ah K H a xs/\∀ x∈xs,∃ p,x = .ref p/\aj K H p (row x)/\(row x).length=k
theorem P6{k:Nat}{g:TG}(hg:∀ (p:YN) (ys:List V) (os:List (Option V)) (H:Hp) (Q:L2.St->Hp->Prop),os.length=k->ys.length=k->aj K H p ys->Q (ys.map some++ρ) H->g (.ref p) (os++ρ) H Q)
 (hn:xs.length<=Y0) (h:dW (qL K a xs row k) ρ (mY row tt) (mZ row te) xs [] H λzs H'=>∀ l,H' l=none->Q (.ref l) (upd H' l (.lst zs))) :
 jS k (iY K a) g ρ tt te H Q:=by
 refine⟨λi m ys H=>m=xs.length-i/\i<=xs.length/\ys.length<=i/\dW (qL K a xs row k) ρ (mY row tt) (mZ row te) (xs.drop i) ys H λys H'=>∀ l,H' l=none->Q (.ref l) (upd H' l (.lst ys)),⟨_,rfl,Zc _,YD _,h⟩,?_⟩;rintro i m ys H ⟨rfl,hi,hy,c⟩;by_cases aU:i<xs.length
 .have e:=ZS aU;rw[e] at c;obtain⟨⟨c0,c1⟩,c2⟩:=c;have l1:∀ y:V,(ys++[y]).length<=i+1:=λy=>by rw[YJ,YR];lia
  have l2:ys.length<=i+1:=by lia
  refine .inr ⟨⟨xs,_,c0,Yx aU⟩,by lia,λzs H'=>zs.length<=i+1/\dW (qL K a xs row k) ρ (mY row tt) (mZ row te) (xs.drop (i+1)) zs H' λys H'=>∀ l,H' l=none->Q (.ref l) (upd H' l (.lst ys)),λzs H' q=>⟨_,by lia,rfl,aU,q.1,q.2⟩,λos xr v H' y=>?_⟩;obtain⟨rfl,ex⟩:=y;have ex:=ex xs c0;rw[Yx aU] at ex;obtain⟨p,ep,hp,hl⟩:=c1 xs[i] (adN _);cases ex;rw[ep] at hp hl c2 ⊢;refine hg p _ os _ _ xr hl hp ⟨(row (.ref p)).map some,by rw[Yw];exact hl,rfl,?_⟩;simp only[l1,l2,true_and];exact c2
 .have e:i=xs.length:=by lia
  subst e;rw[afG] at c;exact .inl ⟨⟨xs,c.1.1,YD _⟩,by lia,c.2⟩
theorem P7{p:YN}{ys:List V}{os:List (Option V)}{H:Hp}{Q:L2.St->Hp->Prop}(ho:os.length=3)(hy:ys.length=3)(h:aj K H p ys)(q:Q (ys.map some++ρ) H):mj K 3 (dM (cJ 0) (dM (cJ 1) (dM (cJ 2) kH))) (.ref p) (os++ρ) H Q:=by
 match os,ho,ys,hy with
 | [o1,o2,o3],_,[x,y,z],_=>exact Pq h q
theorem Fz(hn:xs.length<=Y0)(h:dW (qL K a xs row 3) ρ (mY row tt) (mZ row te) xs [] H λzs H'=>∀ l,H' l=none->Q (.ref l) (upd H' l (.lst zs))) :
 jS 3 (iY K a) (mj K 3 (dM (cJ 0) (dM (cJ 1) (dM (cJ 2) kH)))) ρ tt te H Q:=P6 (λ_ _ _ _ _ ho hy h q=>P7 ho hy h q) hn h
end
theorem uZ{α β:Type}{R:Hp->V->α->Prop}{R':Hp->V->β->Prop}{Ok:Hp->Prop}{ρ:L2.St}{tt:TT}{te:TE}{p:α->Bool}{f:α->β}{Q':List V->Hp->Prop}(mono:∀ H H' x a,ak H H'->R H x a->R H' x a)(oA:∀ H H' x a,ak H H'->R' H x a->R' H' x a):∀ {xs:List V} {as:List α} {zs:List V} {bs:List β} {H:Hp},ay (R H) xs as->ay (R' H) zs bs->(∀ H',ak H H'->Ok H') ->
 (∀ x a,a∈as->∀ H',ak H H'->R H' x a->∀ Q:Bool->Hp->Prop,Q (p a) H'->tt (some x::ρ) H' Q)->(∀ x a,a∈as->p a=true->∀ H',ak H H'->R H' x a->∀ Q:VK,(∀ H2 y,ak H' H2->R' H2 y (f a)->Q y H2)->te (some x::ρ) H' Q)->(∀ H' ws,ak H H'->ay (R' H') ws (bs++(as.filter p).map f)->Q' ws H')->dW Ok ρ tt te xs zs H Q'
 | [],[],zs,bs,H,_,hz,bT,_,_,q=>⟨bT H (ak.refl H),q H zs (ak.refl H) (by simpa using hz)⟩
 | x::xs,a::as,zs,bs,H,h,hz,bT,ht,he,q=>by
  refine⟨bT H (ak.refl H),ht x a (.head _) H (ak.refl H) h.1 _ ?_⟩;by_cases hp:p a=true
  .rw[if_pos hp];refine he x a (.head _) hp H (ak.refl H) h.1 _ λH2 y s2 ry=>?_;refine uZ mono oA (bs:=bs++[f a]) (h.2.imp λ_ _ r=>mono _ _ _ _ s2 r) ((hz.imp λ_ _ r=>oA _ _ _ _ s2 r).snoc ry) (λH' s'=>bT H' (s2.trans s')) (λx b hb H' s'=>ht x b (.tail _ hb) H' (s2.trans s')) (λx b hb hp H' s'=>he x b (.tail _ hb) hp H' (s2.trans s')) λH' ws s' hw=>q H' ws (s2.trans s') ?_;rw[Zs,if_pos hp];simpa using hw
  .rw[if_neg hp];refine uZ mono oA h.2 hz bT (λx b hb=>ht x b (.tail _ hb)) (λx b hb hp=>he x b (.tail _ hb) hp) λH' ws s' hw=>q H' ws s' ?_;rw[Zs,if_neg hp];exact hw
 | [],_::_,_,_,_,h,_,_,_,_,_=>h.elim
 | _::_,[],_,_,_,h,_,_,_,_,_=>h.elim
theorem P8(ai:List YB):af0 ai.toArray none none (some (-1))=ai.reverse.toArray:=by
 have e1:abI none none (some (-1)) ai.toArray.size=(((ai.length:Nat):Int)-1,-1,-1):=by rw[YI];rfl
 unfold af0;rw[e1];dsimp only;have e2:sliceRange (((ai.length:Nat):Int)-1) (-1) (-1)=(Y1 ai.length).map λk=>ai.length-1-k:=by
  unfold sliceRange;have h1:¬ ((-1:Int) > 0):=by lia
  simp only[h1,if_false];by_cases h:ai.length=0
  .rw[h];rfl
  .rw[if_pos (by lia),show (((ai.length:Nat):Int)-1 - -1 - -1-1) / (- -1)=((ai.length:Nat):Int) by
    rw[show (- (-1:Int))=1 by lia,ag3];lia,Zq]
   refine aan λk hk=>?_;have:=ZK.mp hk;lia
 rw[e2]
 congr 1
 refine aa2 λk=>?_;have key:((Y1 ai.length).map λk=>ai.length-1-k).filterMap (ai.toArray[·]?)=(Y1 ai.length).map λk=>ai.getD (ai.length-1-k) .none:=by
  rw[List.filterMap_map];have:∀ (l:List Nat),(∀ k∈l,k<ai.length)->l.filterMap ((λx=>ai.toArray[x]?) ∘ λk=>ai.length-1-k)=l.map λk=>ai.getD (ai.length-1-k) .none:=by
   intro l
   induction l with
   | nil=>intro _;rfl
   | cons k l ih =>
    intro h;have hk:=h k (.head _);rw[ZW,YW];have e:((λx=>ai.toArray[x]?) ∘ λk=>ai.length-1-k) k=some (ai.getD (ai.length-1-k) .none):=by show ai.toArray[ai.length-1-k]?=_;rw[List.getElem?_toArray,Yv,Yx (by lia)];rfl
    rw[e,ih λj hj=>h j (.tail _ hj)]
  exact this _ λk hk=>ZK.mp hk
 rw[key];by_cases hk:k<ai.length
 .rw[YF,Zb hk,aaR hk];simp only[Option.map_some];rw[Yv,Yx (by lia)];rfl
 .rw[ZF (by rw[Yw,YQ];lia),ZF (by rw[aam];lia)]
section
variable{X:Cx}{e st:ach}{te ts:TE}{p2 pos:Pos}
def FA(K:Yu)(te ts:TE):TE:=λσ H Q=>te σ H λx H1=>ts σ H1 λy H2=>y = .int (-1)/\∃ a xs,x = .ref a/\ah K H2 a xs/\∀ p,H2 p=none->Q (.ref p) (upd H2 p (.lst xs.reverse))
theorem FC(he:PE X e te)(hs:PE X st ts):PE X (.Subscript e (.Slice none none (some st) p2) pos) (FA X.K te ts):=by intro pins s σ H Q I h;refine afi (aD (he pins s σ H _ I h) λv s1 zq=>?_);obtain⟨x,H1,I1,r1,q1⟩:=zq;refine wpAny_Slice ?_;rw[aeT];refine Yz (Yz ?_);rw[evalPart_some];refine aD (hs pins s1 σ H1 _ I1 q1) λu s2 zq=>?_;obtain⟨y,H2,I2,r2,q2⟩:=zq;obtain⟨rfl,a,xs,rfl,hx,q⟩:=q2;obtain⟨t,rfl⟩:=r2;cases r1;have I4:Inv X pins σ H2 { s2 with heap:=s2.heap.push { cls:=.type "slice",data:=.fields #[.none,.none,.int (-1) t] } }:=I2.kept (t':=s2.toks) λb ob q=>Yy _ q;obtain⟨ai,r,ht,hz⟩:=I4.list hx;have hlen:=r.length;show YT (model X.prog X.w) X.A (ady e (.Slice none none (some st) p2) (.ref a) (.ref s2.heap.objs.size)) (EP X pins σ Q) X.xe { s2 with heap:=s2.heap.push { cls:=.type "slice",data:=.fields #[.none,.none,.int (-1) t] } };refine tail_any (ops:=[.ref a,.ref s2.heap.objs.size]) ht.isList.typeIs slot_list_getitem.lookup ?_ (by with_unfolding_all rfl);refine adk ht.isList (Heap.IsSliceOf.new ..) .none .none (.int (-1) t) (by simp) ?_ (by rw[YI];lia);rw[P8];refine⟨.ref _,_,I4.laid (t':=s2.toks) (o:=.lst xs.reverse) (λb ob q=>Yy _ q) (YD _) ?_,rfl,q _ (I4.ao.fresh (YD _))⟩;exact⟨by rw[aam];exact hz,_,0,r.reverse,YH _ rfl⟩
end
theorem P9{K:Yu}{a:YN}{xs:List V}{ρ:L2.St}{tt:TT}{te:TE}{H:Hp}{Q:VK}(hn:xs.length<=Y0)(h:dW (λH=>ah K H a xs) ρ tt te xs.reverse [] H λys H'=>∀ l,H' l=none->Q (.ref l) (upd H' l (.lst ys))):kX (uw K a xs.length) ρ tt te H Q:=by
 have hr:xs.reverse.length=xs.length:=aam;refine⟨λi m ys H=>m=xs.length-i/\i<=xs.length/\ys.length<=i/\dW (λH=>ah K H a xs) ρ tt te (xs.reverse.drop i) ys H λys H'=>∀ l,H' l=none->Q (.ref l) (upd H' l (.lst ys)),⟨_,rfl,Zc _,YD _,h⟩,?_⟩;rintro i m ys H ⟨rfl,hi,hy,g⟩;by_cases aU:i<xs.length
 .have e:=ZS (show i<xs.reverse.length by lia);rw[e] at g;obtain⟨g0,g1⟩:=g;refine .inr ⟨⟨xs,_,g0,rfl,Yx (by lia)⟩,by lia,λzs H'=>zs.length<=i+1/\dW (λH=>ah K H a xs) ρ tt te (xs.reverse.drop (i+1)) zs H' λys H'=>∀ l,H' l=none->Q (.ref l) (upd H' l (.lst ys)),λzs H' q=>⟨_,by lia,rfl,aU,q.1,q.2⟩,λx H' y=>?_⟩;obtain⟨rfl,ex⟩:=y;have ex:=ex xs g0 rfl;rw[Yx (by lia)] at ex;cases ex;have l1:∀ y:V,(ys++[y]).length<=i+1:=λy=>by rw[YJ,YR];lia
  have l2:ys.length<=i+1:=by lia
  simp only[l1,l2,true_and];exact g1
 .have e:i=xs.length:=by lia
  subst e;rw[ab1 (by lia)] at g;exact .inl ⟨rfl,by lia,g.2⟩
theorem xb(h:ac2 us ns):Vals (ns.map V.int) us:=by
 induction h with
 | nil=>exact .nil
 | cons n t r ih=>exact .cons ⟨t,rfl⟩ ih
theorem yI{α:Type}{R:Hp->V->α->Prop}{Ok:Hp->Prop}{ρ:L2.St}{tt:TT}{te:TE}{p:α->Bool}{Q':List V->Hp->Prop}(mono:∀ H H' x a,ak H H'->R H x a->R H' x a):∀ {xs:List V} {as:List α} {ys:List V} {H:Hp},ay (R H) xs as->(∀ H',ak H H'->Ok H') ->
 (∀ x a,a∈as->∀ H',ak H H'->R H' x a->∀ Q,(∀ kZ,ak H' kZ->Q (p a) kZ)->tt (some x::ρ) H' Q)->(∀ x H',ak H H'->∀ Q:VK,Q x H'->te (some x::ρ) H' Q) ->
 (∀ H' zs,ak H H'->ay (R H') zs (as.filter p)->Q' (ys++zs) H')->dW Ok ρ tt te xs ys H Q'
 | [],[],ys,H,_,bT,_,_,q=>⟨bT H (ak.refl H),by simpa using q H [] (ak.refl H) trivial⟩
 | x::xs,a::as,ys,H,h,bT,ht,he,q=>by
  refine⟨bT H (ak.refl H),ht x a (.head _) H (ak.refl H) h.1 _ λH1 s1=>?_⟩;have go:=λ(ws:List V) (q2:∀ H' zs,ak H1 H'->ay (R H') zs (as.filter p)->Q' (ws++zs) H')=>yI (ys:=ws) mono (h.2.imp λx a r=>mono _ _ _ _ s1 r) (λH' s'=>bT H' (s1.trans s')) (λx a ha H' s'=>ht x a (.tail _ ha) H' (s1.trans s')) (λx H' s'=>he x H' (s1.trans s')) q2;by_cases hb:p a=true
  .rw[if_pos hb];refine he x H1 s1 _ (go _ λH' zs s' hz=>?_);have:=q H' (x::zs) (s1.trans s') (by rw[Zs,if_pos hb];exact⟨mono _ _ _ _ (s1.trans s') h.1,hz⟩);simpa using this
  .rw[if_neg hb];refine go _ λH' zs s' hz=>q H' zs (s1.trans s') ?_;rw[Zs,if_neg hb];exact hz
 | [],_::_,_,_,h,_,_,_,_=>h.elim
 | _::_,[],_,_,h,_,_,_,_=>h.elim
abbrev lq(H:Hp)(v:V)(s:S2):Prop:=aG H v s.1 s.2
theorem ay.FD:∀ {H:Hp} {xs:List V} {ss:List S2},ay (lq H) xs ss->aP H xs ss
 | _,[],[],_=>trivial
 | _,_::_,_::_,h=>⟨h.1,ay.FD h.2⟩
 | _,[],_::_,h=>h.elim
 | _,_::_,[],h=>h.elim
noncomputable def cellsFrom:En->List Int->List S2
 | lo,[]=>[(lo,none)]
 | lo,z::zs=>(lo,some (z-1))::cellsFrom (some z) zs
noncomputable def j8(c:S2):Int:=match c.1,c.2 with
 | some x,_=>x
 | none,some y=>y
 | none,none=>0
theorem Qa(h:eZ c):hs c (j8 c)=true:=by
 rw[oH];unfold eZ at h;rcases c with ⟨_|x,_|y⟩
 .exact⟨λ_ e=>(nomatch e),λ_ e=>(nomatch e)⟩
 .exact⟨λ_ e=>(nomatch e),λ_ e=>by cases e;exact ZJ _⟩
 .exact⟨λ_ e=>by cases e;exact ZJ _,λ_ e=>(nomatch e)⟩
 .refine⟨λ_ e=>by cases e;exact ZJ _,λ_ e=>?_⟩;cases e;show x<=y;simp[aO] at h;lia
theorem FE(es:List Int):(es.map V.int).all i8=true:=by rw[ag4];exact aaP.mpr λ_ _=>rfl
theorem yJ(a:Int):∀ (es:List Int),n6 (.int a) (es.map V.int)=es.contains a
 | []=>rfl
 | e::es=>by
  have ih:=yJ a es;unfold n6 at *;rw[YW,ZV,ih,List.contains_cons]
  congr 1
  show (e == a)=(a == e);rw[aaH];simp only[beq_iff_eq];exact eq_comm
theorem FF{K:Yu}{H1 H':Hp}{l:YN}{ys:List V}{tb:Tb}(hl:H1 l=some (.lst ys))(hM:ay (jn H1) ys tb)(s:ak H1 H'):qL K l ys (rowOf H1) 3 H':=by refine⟨ah.of (s _ _ hl),λx hx=>?_⟩;obtain⟨i,hi⟩:=aac.mp hx;obtain⟨m,_,t,p,rfl,h1,h2⟩:=hM.get hi;rw[qK h1];exact⟨t,rfl,aj.of (s _ _ h1),rfl⟩
noncomputable def cw:Nat->List (List Int)
 | 0=>[[]]
 | n+1=>cw n++(cw n).map λs=>s++[((n:Nat):Int)]
theorem qM:∀ n,(cw n).length=2 ^ n
 | 0=>rfl
 | n+1=>by rw[cw,YJ,Yw,qM n,ag5];lia
theorem qN:∀ (n:Nat) (s:List Int),s∈cw n->s.length<=n
 | 0,s,h=>by
  obtain rfl:s=[]:=by simpa [cw] using h
  exact YD _
 | n+1,s,h=>by
  rw[cw] at h;rcases YX.mp h with h|h
  .exact afr (qN n s h)
  .obtain⟨s',h',rfl⟩:=YO.mp h;have:=qN n s' h';rw[YJ,YR];lia
def j9(H:Hp)(v:V)(s:List Int):Prop:=∃ l,v = .ref l/\H l=some (.lst (s.map V.int))
theorem j9.same(h:j9 H v s)(u:ak H H'):j9 H' v s:=let ⟨l,e,a⟩:=h;⟨l,e,u _ _ a⟩
noncomputable def b8(tb:Tb)(es:List Int):List Mk:=((lj tb).filter λr=>!es.contains r.1.1).map λr=>(r.1.2.toNat,r.2)
noncomputable def fY(ps:List P2)(ms:List Mk):Option (List S2):=if ((Y1 (ps.length+1)).any λt=>(aS (bB ms) (aB ps) t).isNone)=true then none else some ((Y1 (ps.length+1)).map λt=>(cj ps.length (bB ms) (aB ps) t).getD (none,none))
def ke(H:Hp)(v:V)(o:Option (List S2)):Prop:=match o with
 | none=>v = .non
 | some ss=>∃ l zs,v = .ref l/\H l=some (.lst zs)/\ay (lq H) zs ss
theorem ke.same(h:ke H v o)(s:ak H H'):ke H' v o:=by
 cases o with
 | none=>exact h
 | some ss=>obtain⟨l,zs,e,a,b⟩:=h;exact⟨l,zs,e,s _ _ a,b.imp λ_ _ r=>aG.same r s⟩
theorem map_some:∀ (l:List α),(l.map f).filterMap id=l.filterMap f
 | []=>rfl
 | a::l=>by rw[YW,ZW,ZW,map_some l];rfl
theorem yK:∀ {os:List (Option α)} {xs:List V},ay R xs (os.filter λo=>o.isSome)->ay (λv a=>R v (some a)) xs (os.filterMap id)
 | [],[],_=>trivial
 | [],_::_,h=>h.elim
 | none::os,xs,h=>yK (os:=os) h
 | some a::os,x::xs,h=>⟨h.1,yK (os:=os) h.2⟩
 | some a::os,[],h=>h.elim
theorem Qb:∀ n:Nat,n<8->∀ k:Nat,k<8->((cw n).filter λs=>decide (s.length=k)).length<=35:=by decide +kernel
theorem Qc{e m:Int}(h1:1<=e)(h7:e<=7):((cw e.toNat).filter λs=>decide ((s.length:Int)=m)).length<64:=by
 by_cases hm:0<=m/\m<8
 .have:=Qb e.toNat (by lia) m.toNat (by lia);have e2:(λs:List Int=>decide ((s.length:Int)=m))=λs=>decide (s.length=m.toNat):=by funext s;exact decide_eq_decide.mpr (by lia)
  rw[e2];lia
 .have:(cw e.toNat).filter (λs=>decide ((s.length:Int)=m))=[]:=List.filter_eq_nil_iff.mpr λs hs=>by have:=qN _ s hs;simp only[decide_eq_true_eq];lia
  rw[this];decide
noncomputable def m5(e t u d m:Int)(tb:Tb):List (List S2):=((cw e.toNat).filter λs=>decide ((s.length:Int)=m)).filterMap λs=>fY (Zp (t-1).toNat (-d,u)) (b8 tb s)
theorem FG(h1:1<=e)(h7:e<=7):(m5 e t u d m tb).length<64:=ZL (List.length_filterMap_le _ _) (Qc h1 h7)
theorem Qd(h:fY ps ms=some ss):ss.length=ps.length+1:=by
 unfold fY at h;split at h
 .cases h
 .cases h;rw[Yw,YQ]
theorem Qe(ht:1<=t)(h:ss∈m5 e t u d m tb):(ss.length:Int)=t:=by obtain⟨s,_,hs⟩:=aau.mp h;have:=Qd hs;rw[aar] at this;lia
theorem cI:∀ {l:List α},l.Pairwise R->∀ {p q:α},p∈l->q∈l->p=q∨R p q∨R q p
 | [],_,_,_,h,_=>by cases h
 | x::l,h,p,q,hp,hq=>by
  have h1:=ae2.mp h;rcases YV.mp hp with e1|i1<;>rcases YV.mp hq with e2|i2
  .exact .inl (e1.trans e2.symm)
  .rw[e1];exact .inr (.inl (h1.1 q i2))
  .rw[e2];exact .inr (.inr (h1.1 p i1))
  .exact cI h1.2 i1 i2
theorem FH:∀ {n:Nat} {s:List Int},s∈cw n->s.length<n->∃ s'∈cw n,s'.length=s.length+1/\∀ x∈s,x∈s'
 | 0,s,_,h=>by lia
 | n+1,s,hs,hl=>by
  rw[cw] at hs;rcases YX.mp hs with h|h
  .refine⟨s++[(n:Int)],?_,by simp,λx hx=>Zl _ hx⟩;rw[cw];exact YL _ (YO.mpr ⟨s,h,rfl⟩)
  .obtain⟨r,hr,rfl⟩:=YO.mp h;rw[YJ,YR] at hl;obtain⟨r',h1,h2,h3⟩:=FH hr (by lia);refine⟨r' ++ [(n:Int)],?_,by simp[h2],λx hx=>?_⟩
   .rw[cw];exact YL _ (YO.mpr ⟨r',h1,rfl⟩)
   .rcases YX.mp hx with z|z
    .exact Zl _ (h3 x z)
    .exact YL _ z
theorem qO:(lj tb).Perm tb:=mK
theorem Qf:k∈b8 tb es ↔ ∃ r∈tb,r.1.1∉es/\k=(r.1.2.toNat,r.2):=by
 unfold b8;rw[YO];constructor
 .rintro ⟨r,hr,rfl⟩;obtain⟨h1,h2⟩:=Y8.mp hr;exact⟨r,qH h1,by simpa using h2,rfl⟩
 .rintro ⟨r,hr,hn,rfl⟩;exact⟨r,Y8.mpr ⟨qO.mem_iff.mpr hr,by simpa using hn⟩,rfl⟩
theorem Qg(h:fY ps ms=some ss):(∀ t,t<=ps.length->aS (bB ms) (aB ps) t≠none)/\∀ t,t<=ps.length->bc ss t=(cj ps.length (bB ms) (aB ps) t).getD (none,none):=by
 unfold fY at h;split at h
 .cases h
 .rename_i hn;cases h;refine⟨λt ht e=>hn (ZE.mpr ⟨t,ZK.mpr (by lia),by rw[e];rfl⟩),λt ht=>?_⟩;unfold bc;rw[Yv,YF,Zb (by lia)];rfl
theorem Qh(h:∀ t,t<=ps.length->aS (bB ms) (aB ps) t≠none):∃ ss,fY ps ms=some ss:=by
 unfold fY;rw[if_neg]
 .exact⟨_,rfl⟩
 .intro z;obtain⟨t,ht,e⟩:=ZE.mp z;exact h t (by have:=ZK.mp ht;lia) (ac7.mp e)
theorem yL(hp:cS ps)(hm:∀ m∈ms,m.1<=ps.length)(h:fY ps ms=some ss)(ht:t<=ps.length):eZ (bc ss t)/\∀ x,bF (bc ss t) x ↔ ∃ c,d8 ps c/\meets ms c/\c t=x:=by obtain⟨h1,h2⟩:=Qg h;have T:=yH hp h1;obtain⟨s,es,hc⟩:=T.ok t ht;rw[h2 t ht,es];refine⟨hc,λx=>⟨λhx=>PZ hp hm T ht ⟨s,es,hx⟩,?_⟩⟩;rintro ⟨c,h3,h4,rfl⟩;obtain⟨s',es',hx⟩:=P5 h3 h4 ht;rw[es] at es';cases es';exact hx
def oU(e t u d m:Int)(tb:Tb)(k:Nat)(x:Int):Prop:=∃ s∈cw e.toNat,(s.length:Int)=m/\∃ c,d8 (Zp (t-1).toNat (-d,u)) c/\meets (b8 tb s) c/\c k=x
theorem yM(hu:0<=u)(hd:0<=d):cS (Zp n ((-d,u):P2)):=λq hq=>by rw[(ae3.mp hq).2];show -d<=u;lia
theorem Qi(ao:bL e t tb)(ht:1<=t)(s:List Int):∀ m∈b8 tb s,m.1<=(t-1).toNat:=λm hm=>by obtain⟨r,hr,_,rfl⟩:=Qf.mp hm;have:=(ao.2 r hr).2;show r.1.2.toNat<=_;lia
theorem Qj{e t u d m:Int}{tb:Tb}{k:Nat}(hu:0<=u)(hd:0<=d)(ao:bL e t tb)(ht:1<=t)(hk:(k:Int)<t):(∀ s∈(m5 e t u d m tb).map λss=>bc ss k,eZ s)/\∀ x,(((m5 e t u d m tb).map λss=>bc ss k).any λs=>hs s x)=true↔oU e t u d m tb k x:=by
 have rl:(Zp (t-1).toNat ((-d,u):P2)).length=(t-1).toNat:=aar;have mt:∀ s,∀ m∈b8 tb s,m.1<=(Zp (t-1).toNat ((-d,u):P2)).length:=λs m hm=>by rw[rl];exact Qi ao ht s m hm
 constructor
 .intro s hs;obtain⟨ss,hss,rfl⟩:=YO.mp hs;obtain⟨es,_,he⟩:=aau.mp hss;exact (yL (yM hu hd) (mt es) he (by lia)).1
 .intro x;rw[ZE];constructor
  .rintro ⟨s,hs,hx⟩;obtain⟨ss,hss,rfl⟩:=YO.mp hs;obtain⟨es,h1,he⟩:=aau.mp hss;obtain⟨h2,h3⟩:=Y8.mp h1;exact⟨es,h2,by simpa using h3,((yL (yM hu hd) (mt es) he (by lia)).2 x).mp (oH.mp hx)⟩
  .rintro ⟨es,h1,h2,c,h3,h4,h5⟩;obtain⟨ss,hss⟩:=Qh (Fw h3 h4);refine⟨bc ss k,YO.mpr ⟨ss,aau.mpr ⟨es,Y8.mpr ⟨h1,by simpa using h2⟩,hss⟩,rfl⟩,oH.mpr (((yL (yM hu hd) (mt es) hss (by lia)).2 x).mpr ⟨c,h3,h4,h5⟩)⟩
noncomputable def iD(e t u d m:Int)(tb:Tb)(k:Nat):List S2:=lg ((m5 e t u d m tb).map λss=>bc ss k)
local macro_rules | `(tactic| walk_at "o") => `(tactic| ((try simp only [PySem.Addr] at *); lia))
abbrev FI(h:aa4)(T:YN)(a b c:YB):Prop:=h.get? T=some { cls:=.type "tuple",data:=.seq #[a,b,c] }
section
structure Z3(n:Nat)(l1 l2 l3:YN)(h:aa4)(k:Nat)(f0:YB):Prop where
 z:IsZip h (n+5:Nat) (n+3:Nat) (n+4:Nat) f0
 ti:FI h (n+3:Nat) (.ref n) (.ref (n+1:Nat)) (.ref (n+2:Nat))
 to:∃ a b c,FI h (n+4:Nat) a b c
 i1:h.IsListIter n l1 k
 i2:h.IsListIter (n+1:Nat) l2 k
 i3:h.IsListIter (n+2:Nat) l3 k
end
noncomputable def Ql(K:Yu)(a b c:YN):It :=
 ⟨λi H=>∃ xs ys zs x y z,ah K H a xs/\ah K H b ys/\ah K H c zs/\xs[i]?=some x/\ys[i]?=some y/\zs[i]?=some z,λi H v H'=>∃ (p:YN) (x y z:V),v = .ref p/\H p=none/\H'=upd H p (.tup [x,y,z])/\(∀ xs,ah K H a xs->xs[i]?=some x)/\(∀ ys,ah K H b ys->ys[i]?=some y)/\∀ zs,ah K H c zs->zs[i]?=some z,
  λi H=>∃ xs,ah K H a xs/\xs.length<=i⟩
def Qm(K:Yu)(ta:TA):TI:=λσ H R=>ta σ H λvs H1=>∃ a b c,vs=[.ref a,.ref b,.ref c]/\(∃ xs,ah K H1 a xs)/\(∃ ys,ah K H1 b ys)/\(∃ zs,ah K H1 c zs)/\R (Ql K a b c) H1
section
def Loose:HO->Prop
 | .dT _=>True
 | .aN _ (.dT _)=>True
 | _=>False
theorem FK(I:Inv X pins σ H s)(e:H a=some u)(lu:Loose u)(h0:∀ o v,X.H₀ a≠some (.aN o v))(new:bw X.prog X.w (upd H a u') s.heap a u'):Inv X pins σ (upd H a u') s:=by
 have nn:∀ b,H b=none->b≠a:=λb h z=>by rw[z,e] at h;cases h
 have nt:∀ b xs,H b=some (.tup xs)->b≠a:=λb xs h z=>by rw[z,e] at h;cases h;exact lu
 have no:∀ b x,H b=some (.own x)->b≠a:=λb x h z=>by rw[z,e] at h;cases h;exact lu
 have nb:∀ b ps,H b=some (.tbl ps)->b≠a:=λb ps h z=>by rw[z,e] at h;cases h;exact lu
 refine⟨I.ok,I.os,I.bare,⟨I.base.keep,I.base.slot,λb o e1 n hx=>?_,I.base.there,λb xs e1=>?_,λb o v e1=>?_,λb ps e1=>?_⟩,I.loc,I.cell,?_,λx c e1=>?_,λp hp=>?_,λb ob e1=>?_,I.len⟩
 .have:=I.base.free b o e1 n hx;rw[aC (nn b this)];exact this
 .have:=I.base.dA b xs e1;rw[aC (nt b xs this)];exact this
 .have:=I.base.dJ b o v e1;rw[aC (show b≠a from λz=>h0 o v (by rw[<- z];exact e1))];exact this
 .obtain⟨more,this⟩:=I.base.eh b ps e1;exact⟨more,by rw[aC (nb b _ this)];exact this⟩
 .rw[aC (nn _ I.free)];exact I.free
 .have:=I.el x c e1;rw[aC (nn c this)];exact this
 .obtain⟨p1,p2,p3⟩:=I.pin p hp;exact⟨p1,by rw[aC (nn _ p2)];exact p2,p3⟩
 .by_cases hb:b=a
  .subst hb;rw[az] at e1;cases e1;exact new
  .rw[aC hb] at e1;exact (I.ao b ob e1).fh (λ_ _ _ q=>q) (λc h=>by rw[aC (no c _ h)];exact h) λc xs h=>by rw[aC (nt c xs h)];exact h
theorem Qn(I:Inv X pins σ H s)(e:H a=some (.dT kvs)):∃ o,Inv X pins σ (upd H a (.aN o (.dT kvs))) s/\∀ o v,X.H₀ a≠some (.aN o v):=by
 have h0:∀ o v,X.H₀ a≠some (.aN o v):=λo v z=>by have:=I.base.dJ a o v z;rw[e] at this;cases this
 have ok:=I.ao a _ e;obtain⟨_,_,_,_,o,_,_,ho,_⟩:=id ok;refine⟨o,FK I e trivial h0 ⟨ho,ok.fh (λ_ _ _ q=>q) (λc h=>?_) λc xs h=>?_⟩,h0⟩
 .rw[aC λz=>by rw[z,e] at h;cases h];exact h
 .rw[aC λz=>by rw[z,e] at h;cases h];exact h
theorem u5(I:Inv X pins σ H s)(e:H a=some (.aN o (.dT kvs)))(h0:∀ o v,X.H₀ a≠some (.aN o v)):Inv X pins σ (upd H a (.dT kvs)) s:=by
 obtain⟨_,ok⟩:=I.ao a _ e;refine FK I e trivial h0 (ok.fh (λ_ _ _ q=>q) (λc h=>?_) λc xs h=>?_)
 .rw[aC λz=>by rw[z,e] at h;cases h];exact h
 .rw[aC λz=>by rw[z,e] at h;cases h];exact h
noncomputable def FL(a:YN)(o:Obj)(kvs:List (List Key × V))(D:Ends):Ends where
 nx:=λσ H=>H a=some (.aN o (.dT kvs))/\D.nx σ (upd H a (.dT kvs))
 rt:=λv H=>H a=some (.aN o (.dT kvs))/\D.rt v (upd H a (.dT kvs))
 bk:=λσ H=>H a=some (.aN o (.dT kvs))/\D.bk σ (upd H a (.dT kvs))
 ct:=λσ H=>H a=some (.aN o (.dT kvs))/\D.ct σ (upd H a (.dT kvs))
def FN(t:TS):TS:=λD σ H=>∃ a kvs,H a=some (.dT kvs)/\∀ o,t (FL a o kvs D) σ (upd H a (.aN o (.dT kvs)))
theorem FO{st:aaA}{t:TS}(h:PS X st t):PS X st (FN t):=by
 rintro pins s σ H D I ⟨a,kvs,e,q⟩;obtain⟨o,I1,h0⟩:=Qn I e;refine aD (h pins s σ _ _ I1 (q o)) λf s' hf=>?_;cases f with
 | next=>obtain⟨σ',H',I',e',q'⟩:=hf;exact⟨σ',_,u5 I' e' h0,q'⟩
 | brk=>obtain⟨σ',H',I',e',q'⟩:=hf;exact⟨σ',_,u5 I' e' h0,q'⟩
 | cont=>obtain⟨σ',H',I',e',q'⟩:=hf;exact⟨σ',_,u5 I' e' h0,q'⟩
 | ret v=>obtain⟨v',σ',H',I',r',e',q'⟩:=hf;exact⟨v',σ',_,u5 I' e' h0,r',q'⟩
def Qo(t:TE):TE:=λσ H Q=>∃ a kvs,H a=some (.dT kvs)/\∀ o,t σ (upd H a (.aN o (.dT kvs))) λv H'=>H' a=some (.aN o (.dT kvs))/\Q v (upd H' a (.dT kvs))
noncomputable def gC(o:Obj):List V:=match o.data with
 | .dict es _=>es.toList.map λe=>match e.key with
  | .ref a=>V.ref a
  | _=>V.non
 | _=>[]
noncomputable def qP(a:YN)(o:Obj)(kvs:List (List Key × V)):It where
 go i H:=H a=some (.aN o (.dT kvs))/\i<kvs.length
 yld i H x H':=H'=H/\(gC o)[i]?=some x
 stop i H:=H a=some (.aN o (.dT kvs))/\kvs.length<=i
def yN(tl:TE):TI:=λσ H R=>tl σ H λx H1=>∃ a o kvs,x = .ref a/\H1 a=some (.aN o (.dT kvs))/\(gQ H1 (gC o) kvs->R (qP a o kvs) H1)
theorem yO(ok:bN P w H h)(e:H a=some (.aN o (.dT kvs))):∃ (as:List YN) (es:Array aa9) (ep:Nat),gQ H (gC o) kvs/\(a == aal)=false/\fV h a es ep/\o.data = .dict es ep/\es.size=kvs.length/\kvs.length<=Y0/\∀ i (hi:i<es.size),∃ b,es[i].key = .ref b/\(gC o)[i]?=some (.ref b):=by
 obtain⟨ho,z,lo,xs,rel,o',es,ep,cB,hc,hd,he,hn⟩:=ok a _ e;rw[ho] at cB;cases cB;have hl:xs.length=kvs.length:=(Paired.length rel).symm;have hs:es.size=xs.length:=abj he;have ek:gC o=(xs.map (·.2.1)).map V.ref:=by unfold gC;rw[hd];show es.toList.map _=_;rw[he,ZG,ZG];exact aan λx _=>rfl
 refine⟨xs.map (·.2.1),es,ep,?_,lo,⟨o,ho,hc,hd⟩,hd,hs.trans hl,z,λi hi=>?_⟩
 .rw[ek];exact KT.EZ rel
 .have hx:i<xs.length:=by lia
  have e1:=entry_at he i;rw[Zj hi,Yx hx] at e1;have e2:es[i]=afa (adb (ee P w)) xs[i]:=by simpa using e1
  refine⟨xs[i].2.1,by rw[e2];rfl,?_⟩;rw[ek,YF,YF,Yx hx];rfl
theorem Qp{P:Zy}{w:aaa}{K:Yu}{tg:ach}(a it:YN)(o:Obj)(kvs:List (List Key × V))(a7:a≠it):Turn P w K tg (qP a o kvs) [it] it (λi h=>∃ es ep,o.data = .dict es ep/\i<=es.size/\h.IsKeyIter it a i es.size ep) where
 mem:=by simp
 obj:=λi h st b hb=>by
  have e:b=it:=by simpa using hb
  subst e;obtain⟨es,ep,_,_,ob,e,c,d⟩:=st;exact⟨ob,e,λv z=>by rw[d] at z;cases z⟩
 keep:=λi h h' st k=>by obtain⟨es,ep,h1,h2,ob,e,c,d⟩:=st;exact⟨es,ep,h1,h2,ob,k it (by simp) ob e,c,d⟩
 item:=by
  intro X hP hw hK hc i pins s σ H E I hf st hg;subst hP hw hK;obtain⟨e,hi⟩:=hg;obtain⟨es,ep,hd,hle,hit⟩:=st;obtain⟨as,es',pX,hk,lo,raw,hV,hs,hz,gn⟩:=yO I.ao e;rw[hd] at hV;cases hV;obtain⟨f0,f1,f2,f3,f4,f5⟩:=hf it (by simp);have cu:i<es.size:=by lia
  obtain⟨b,eb,kb⟩:=gn i cu;refine ES hit raw cu λh' jZ sb=>?_;have I1:Inv X pins σ H { s with heap:=h' }:=I.turned (t':=s.toks) (λb o hb e=>(sb.2 b hb).trans e) f0 f1 f3 f4 f5;obtain⟨ob,e1,c1,d1⟩:=id jZ;exact⟨es[i].key,rfl,mn (s:={ s with heap:=h' }) e1 c1 d1 (by decide) ⟨.ref b,H,I1,eb,⟨rfl,kb⟩,⟨es,ep,hd,cu,jZ⟩,λb hb=>(hf b hb).1⟩⟩
 done:=by
  intro X hP hw hK hc i pins s σ H E I hf st hg;subst hP hw hK;obtain⟨e,hi⟩:=hg;obtain⟨es,ep,hd,hle,hit⟩:=st;obtain⟨as,es',pX,hk,lo,raw,hV,hs,hz,gn⟩:=yO I.ao e;rw[hd] at hV;cases hV;obtain⟨f0,f1,f2,f3,f4,f5⟩:=hf it (by simp);have ei:i=es.size:=by lia
  subst ei;exact ET (I.ok.hd hc) hit raw λh' eb=>⟨rfl,I.turned (t':=s.toks) (λb o hb e=>eb b o hb e) f0 f1 f3 f4 f5⟩
 self:=λ_ _ _ _ _ st h=>by obtain⟨es,ep,_,_,hit⟩:=st;exact aev hit h
theorem FP(hl:PE X l tl):PI X tg l (yN tl):=by
 intro pins s σ H R I h;refine aD (hl pins s σ H _ I h) λv s1 zq=>?_;obtain⟨x,H1,I1,r1,q1⟩:=zq;obtain⟨a,o,kvs,e,hf,q⟩:=q1;subst e;cases r1;obtain⟨as,es,ep,hk,lo,raw,hd,hs,hz,gn⟩:=yO I1.ao hf;refine ER lo raw ?_;refine⟨s1.heap.objs.size,[s1.heap.objs.size],_,_,H1,rfl,I1.kept (t':=s1.toks) λb o e=>Yy _ e,Qp a _ o kvs (YS raw.lt),⟨es,ep,hd,Zc _,_,YH _ rfl,rfl,rfl⟩,λb hb=>?_,q hk⟩;have e:b=s1.heap.objs.size:=by simpa using hb
 subst e;exact I1.fq (YD _) (I1.ao.fresh (YD _))
theorem Qq:ic (yN tl) g tb D σ H=tl σ H (λx H1=>∃ a o kvs,x = .ref a/\H1 a=some (.aN o (.dT kvs))/\(gQ H1 (gC o) kvs->FJ (qP a o kvs) g tb D σ H1)):=rfl
theorem Qr(Pv:Nat->L2.St->Hp->Prop)(hk:gC o=xs)(Qs:xs.length=kvs.length)(h0:Pv 0 σ H)(hl:∀ i σ H,i<=xs.length->Pv i σ H->H a=some (.aN o (.dT kvs)))(hs:∀ i x σ H,xs[i]?=some x->Pv i σ H->g x σ H λσ2 H2=>tb { D with nx:=Pv (i+1),ct:=Pv (i+1),bk:=D.nx } σ2 H2)(hd:∀ σ H,Pv xs.length σ H->D.nx σ H):FJ (qP a o kvs) g tb D σ H:=by
 refine⟨λi m σ H=>m=xs.length-i/\i<=xs.length/\Pv i σ H,⟨xs.length,by simp,Zc _,h0⟩,?_⟩;rintro i m σ H ⟨rfl,hi,p⟩;have q:=hl i σ H hi p;by_cases aU:i<xs.length
 .refine .inr ⟨⟨q,by lia⟩,Pv (i+1),λσ' H' p'=>⟨xs.length-(i+1),by lia,rfl,aU,p'⟩,λx H' y=>?_⟩;obtain⟨e,y⟩:=y;subst e;rw[hk] at y;exact hs i x σ _ y p
 .have e:i=xs.length:=by lia
  subst e;exact .inl ⟨⟨q,by lia⟩,hd σ H p⟩
theorem Qt(hk:gC o=xs)(Qs:xs.length=kvs.length):qt (qP a o kvs) (λH=>H a=some (.aN o (.dT kvs))) xs :=
 ⟨λi _ _ h e=>⟨h,by have:=(YC.mp e).1;lia⟩,λi _ _ _ _ y=>⟨y.1,λ_=>hk ▸ y.2⟩,λi _ h hi=>⟨h,by lia⟩⟩
end
theorem yP(e:H a=some u)(h:H p=some v)(ne:v≠u):upd H a w p=some v:=by rw[aC (tE h e ne)];exact h
section
theorem Qu(e:H0 a=some (.dT kvs))(s:ak (upd H0 a (.aN o (.dT kvs))) H1):ak H0 (upd H1 a (.dT kvs)):=λb u h=>by
 by_cases hb:b=a
 .subst hb;rw[e] at h;cases h;exact az
 .rw[aC hb];exact s b u (by rw[aC hb];exact h)
theorem yQ(e:H a=some (.dT kvs))(h:H p=some (.tup xs)):upd H a u p=some (.tup xs):=yP e h λz=>nomatch z
theorem Qv(e:H a=some (.dT kvs))(h:H p=some (.lst xs)):upd H a u p=some (.lst xs):=yP e h λz=>nomatch z
theorem aG.aN(h:aG H v x y)(e:H a=some (.dT kvs)):aG (upd H a u) v x y:=let ⟨t,e1,h1⟩:=h;⟨t,e1,yQ e h1⟩
theorem a8.aN(h:a8 H kvs tb)(e:H a=some (.dT kvs)):a8 (upd H a u) kvs tb:=h.imp λ_ _ _ z=>z.aN e
theorem Qw{K:Yu}{xs:List V}(e:H a=some (.dT kvs))(h:ah K H p xs):ah K (upd H a (.aN o (.dT kvs))) p xs:=by
 rcases h with (h|⟨z,h⟩)|h
 .exact .inl (.inl (Qv e h))
 .exact .inl (.inr ⟨z,yP e h λz=>nomatch z⟩)
 .exact .inr h
end
theorem eJ.z(e:H a=some (.aN o (.dT kvs)))(eb:H b=some (.tup (k.map kV))):eJ H a (.ref b) (cG kvs k):=.inr ⟨kvs,k,b,.inr ⟨o,e⟩,rfl,eb,rfl⟩
noncomputable def lr(tb:Tb)(i:Int):List Mk:=((lj tb).filter λr=>decide (r.1.1=i)).map λr=>(r.1.2.toNat,r.2)
noncomputable def dm(cs:List Int)(t:Nat):Int:=cs.getD t 0
theorem Qx(h:t<cs.length):(cs.map V.int)[t]?=some (V.int (dm cs t)):=by rw[YF,Yx h];unfold dm;rw[Yv,Yx h];rfl
section
end
end Gz
namespace Gz
open PySem
theorem slot1{t:agO}{q:Nat}(hp:t.place = #[q])(hd:t.dummies = #[])(j:Nat):t.slot j=if q=j then .live 0 else .empty:=by
 unfold agP acV;rw[hp,hd];simp only[SetTable.below,aad,YI,Zr,abh];by_cases h:q<j
 .have:q≠j:=by lia
  simp[h,this]
 .by_cases e:q=j<;>simp[h,e]
theorem FQ(hp:t.place = #[q])(hd:t.dummies = #[])(hm:t.mask=7)(hf:∀ i,(f i == h)=false) :
 ∀ (n m:Nat) (p:SetTable.Probe),p.more=0->p.j=p.i->p.dummy=none->p.perturb<32 ^ n->p.i<=7->∃ j,j≠q/\aa3 t f h (n+(m+2)) p=some (.empty j none)
 | n,m,⟨j,mo,i,pe,du⟩,h1,h2,h3,h4,h5=>by
  dsimp only at h1 h2 h3 h4 h5;subst h1 h3;obtain rfl:i=j:=h2.symm;have ad:t.advance ⟨i,0,i,pe,none⟩=⟨(i * 5+1+pe / 32) % 8,0,(i * 5+1+pe / 32) % 8,pe / 32,none⟩:=by simp[SetTable.advance,SetTable.leap,hm,agi]
  have le:(i * 5+1+pe / 32) % 8<=7:=by lia
  by_cases e:q=i
  .cases n with
   | zero =>
    have z:(i * 5+1+pe / 32) % 8≠q:=by lia
    refine⟨_,z,?_⟩;rw[show 0+(m+2)=(m+1)+1 by lia,aa3,slot1 hp hd,if_pos e];simp only[hf,Y5,if_false];rw[ad,aa3,slot1 hp hd,if_neg (Zt z)]
   | succ n =>
    obtain⟨j,j1,j2⟩:=FQ hp hd hm hf n m ⟨_,0,_,pe / 32,none⟩ rfl rfl rfl (by dsimp only;rw[ag5] at h4;exact Nat.div_lt_of_lt_mul (by lia)) le;refine⟨j,j1,?_⟩;rw[show n+1+(m+2)=(n+(m+2))+1 by lia,aa3,slot1 hp hd,if_pos e];simp only[hf,Y5,if_false];rw[ad];exact j2
  .refine⟨i,Zt e,?_⟩;rw[show n+(m+2)=(n+m+1)+1 by lia,aa3,slot1 hp hd,if_neg e]
structure gD(t:agO)(L:List (Nat × Int × YB)):Prop where
 pl:t.place=(L.map (·.1)).toArray
 du:t.dummies = #[]
 ma:t.mask=7
 sh:L=[]∨(∃ a,L=[a]) ∨ ∃ a b,L=[a,b]/\a.1<b.1
section
theorem gD.fits(k:gD t L):t.fits (L.map (·.2)).toArray.size=true:=by obtain⟨h1,h2,h3,h4⟩:=k;rcases h4 with rfl|⟨a,rfl⟩|⟨a,b,rfl,_⟩<;>simp[SetTable.fits,adG,h1,h2,h3]
theorem gD.zero(k:gD t L):SetTable.below t.place 0=0:=by obtain⟨h1,h2,h3,h4⟩:=k;rcases h4 with rfl|⟨a,rfl⟩|⟨a,b,rfl,_⟩<;>simp[h1,SetTable.below,aad]
theorem gD.next(k:gD t L)(hi:i<L.length):SetTable.below t.place (L[i].1+1)=i+1:=by
 obtain⟨h1,h2,h3,h4⟩:=k;rw[h1];rcases h4 with rfl|⟨a,rfl⟩|⟨a,b,rfl,z⟩
 .cases hi
 .obtain rfl:i=0:=by simpa using hi
  simp[SetTable.below,aad]
 .match i,hi with
  | 0,_ =>
   have:¬ b.1<a.1+1:=by lia
   simp[SetTable.below,aad,this]
  | 1,_=>simp[SetTable.below,aad]
theorem gD.free(k:gD t L)(hl:L.length<=1)(h:Int):∃ j,t.freeSlot h=some (j,false)/\j∉L.map (·.1):=by
 obtain⟨h1,h2,h3,h4⟩:=k;rcases h4 with rfl|⟨a,rfl⟩|⟨a,b,rfl,_⟩
 .refine⟨SetTable.bits h % 8,?_,λhx=>nomatch hx⟩;simp[afs,agp,agq,acH,h3,aa3,agP,acV,h1,h2,SetTable.below,aad]
 .have bt:SetTable.bits h<2 ^ 64:=by unfold SetTable.bits;lia
  obtain⟨j,j1,j2⟩:=FQ (q:=a.1) h1 h2 h3 (f:=λ_=>h+1) (h:=h) (λ_=>by simp;lia) 13 205 (t.probeStart h) (by simp[acH,h3,agi]) rfl rfl (YU bt (by decide)) (by simp only[acH,h3];lia);refine⟨j,?_,by simpa using j1⟩;unfold afs agp agq;rw[h3,j2];rfl
 .simp at hl
theorem gD.put(k:gD t L)(hl:L.length<=1)(hj:j∉L.map (·.1))(h:Int)(x:YB) :
 ∃ t' p L',t.put j=(t',p)/\gD t' L'/\ab8 (L.map (·.2)).toArray p (h,x)=(L'.map (·.2)).toArray/\t'.led=t.led/\t'.plain=t.plain/\t'.fill=L.length+1/\L'.Perm ((j,h,x)::L):=by
 obtain⟨h1,h2,h3,h4⟩:=k;rcases h4 with rfl|⟨a,rfl⟩|⟨a,b,rfl,_⟩
 .refine⟨_,_,[(j,h,x)],rfl,⟨?_,?_,h3,.inr (.inl ⟨_,rfl⟩)⟩,?_,rfl,rfl,?_,.refl _⟩<;>simp[adG,acV,ab8,h1,h2,SetTable.below,aad]
 .have hj:j≠a.1:=by simpa using hj
  by_cases z:a.1<j
  .refine⟨_,_,[a,(j,h,x)],rfl,⟨?_,?_,h3,.inr (.inr ⟨_,_,rfl,z⟩)⟩,?_,rfl,rfl,?_,.swap _ _ _⟩<;>simp[adG,acV,ab8,h1,h2,SetTable.below,aad,z]
  .refine⟨_,_,[(j,h,x),a],rfl,⟨?_,?_,h3,.inr (.inr ⟨_,_,rfl,show j<a.1 by lia⟩)⟩,?_,rfl,rfl,?_,.refl _⟩<;>simp[adG,acV,ab8,h1,h2,SetTable.below,aad,z]
 .simp at hl
end
end Gz
namespace Gz
open PySem PySem.Spec PyProof.Rows L2
theorem FR:Manifest.owners.lookup (String.ofList ['r','o','t','a','r','e','t','i','_','t','e','s'].reverse)=some Manifest.sig_set_iterator:=by kernel_rfl
theorem oV:Slot "set_iterator" "__next__" "set_iterator.__next__" :=
 .of (owner := "set_iterator") (n := "__next__") (by rw[acI,abk];kernel_rfl) (by decide +kernel) (by decide +kernel) (by decide +kernel)
  (by first|exact .inl (by decide +kernel)|exact .inr (by decide +kernel)) (by rw[aeC];kernel_rfl)
theorem FT:acT table "set_iterator.__next__" = some aas.«set_iterator.__next__»:=entryFor_of_tree (by kernel_rfl)
theorem FU(a:YB):adM "set_iterator.__next__" ⟨[a],[]⟩:=by unfold adM;rw[signature?_of (id := "set_iterator.__next__") (n:=['_','_','t','x','e','n','_','_']) (o:=['r','o','t','a','r','e','t','i','_','t','e','s']) (by kernel_rfl) FR];kernel_rfl
theorem Qy:acT table "set.__iter__" = some aas.«frozenset.__iter__» :=
 entryFor_alias (id' := "frozenset.__iter__") (by kernel_rfl) (by first|rfl|decide +kernel) (by decide +kernel) (by kernel_rfl)
section
theorem Qz(hT:s.TypeIs (.ref d) "set")(q:Q false s):YT (model prog w) A (abl (.ref d)) Q E s:=by
 unfold abl;refine Yt (acG hT PySem.F.slot_set_len.lookup ?_);generalize hid:("set.__len__" : String)=QA
 wp_delta
 rw[show splitId QA=some ("set","__len__") from by subst hid;decide +kernel];subst hid;refine Yt (abG (T := "set") (b:=true) hT (by rw[aeC];kernel_rfl) ?_);refine abU (λdU=>absurd dU (by decide)) (λ_=>?_);refine abU (λ_=>?_) (λdU=>absurd (by decide +kernel) dU);refine Yt (wpAny_typeOf hT ?_);exact Yz q
theorem FV:Zn "set" = some (.type "set"):=by decide +kernel
end
def iE(h:aa4)(a:YN)(p:P2):Prop:=∃ o t u n,h.get? a=some o/\o.cls = .type "tuple" /\ o.data = .seq #[.int p.1 t,.int p.2 u] n
theorem iE.keep(x:iE h a p)(k:∀ o,h.get? a=some o->h'.get? a=some o):iE h' a p:=let ⟨o,t,u,n,e,r⟩:=x;⟨o,t,u,n,k o e,r⟩
section
theorem FW(h:Q (.bool (decide (x<y))) s):YT (model prog w) A (adA .Lt (.int x t) (.int y u)) Q E s :=
 richCompare_gives (op:=.Lt) (agw s _ t) (agw s _ u) PySem.F.slot_int_lt PySem.F.entry_int_lt (PySem.F.args_int_lt_2 _ _) (gives_int_lt _ _ t u) (λx=>nomatch x) h
theorem u7(ha:iE s.heap a p)(hb:iE s.heap b q)(hu:A.units<adi)(h:Q (.bool (e9 p q)) s):YT (model prog w) A (adA .Lt (.ref a) (.ref b)) Q E s:=by
 obtain⟨oa,t1,u1,n1,hoa,hca,hda⟩:=ha;obtain⟨ob,t2,u2,n2,hob,hcb,gq⟩:=hb;have Ta:s.TypeIs (.ref a) "tuple" := ⟨oa,hoa,hca⟩;have Tb:s.TypeIs (.ref b) "tuple" := ⟨ob,hob,hcb⟩;refine wpAny_richCompare_same_room Ta Tb aeh (ZZ aeh Ta PySem.F.entry_tuple_lt ?_ (PySem.F.args_tuple_lt_2 _ _)) hu;show YT _ _ (agy (.ref b) (.type "tuple") >>= _) _ _ s;refine Yt (abG Tb isSubtype_tuple_tuple ?_);simp only[ae4,Y5,if_false];refine Yt (ae5 hoa hda ?_);refine Yt (ae5 hob gq ?_);refine Yt ?_;refine wpAny_forIn_list _ (λrest r s'=>r.1=none/\s'=s/\(rest=[(.int p.1 t1,.int q.1 t2),(.int p.2 u1,.int q.2 u2)]∨(rest=[(.int p.2 u1,.int q.2 u2)]/\p.1=q.1)∨(rest=[]/\p.1=q.1/\p.2=q.2))) _ ?_ ?_ _ _ ⟨rfl,rfl,.inl rfl⟩
 .rintro ⟨u,v⟩ rest r s' ⟨hr,rfl,hz⟩;rcases hz with hz|⟨hz,e1⟩|⟨hz,_⟩
  .cases hz;refine Yt (adJ ?_);by_cases e:p.1=q.1
   .rw[show (p.1 == q.1)=true by simpa using e];simp only[ae4,Y5,if_false];exact Yz ⟨rfl,rfl,.inr (.inl ⟨trivial,e⟩)⟩
   .rw[show (p.1 == q.1)=false by simpa using e];simp only[agr,if_true];refine Yt (abn (Yt (FW (Yt (Yz (Yz (Yz ⟨_,rfl,λz=>(nomatch z),?_⟩)))))));have e2:e9 p q=decide (p.1<q.1):=by unfold e9;rw[decide_eq_false e];simp
    rw[<- e2];exact h
  .cases hz;refine Yt (adJ ?_);by_cases e:p.2=q.2
   .rw[show (p.2 == q.2)=true by simpa using e];simp only[ae4,Y5,if_false];exact Yz ⟨rfl,rfl,.inr (.inr ⟨trivial,e1,e⟩)⟩
   .rw[show (p.2 == q.2)=false by simpa using e];simp only[agr,if_true];refine Yt (abn (Yt (FW (Yt (Yz (Yz (Yz ⟨_,rfl,λz=>(nomatch z),?_⟩)))))));have e2:e9 p q=decide (p.2<q.2):=by unfold e9;rw[e1];simp
    rw[<- e2];exact h
  .cases hz
 .rintro ⟨r1,r2⟩ s' ⟨hr,rfl,hz⟩;simp only at hr;subst hr;rcases hz with hz|⟨hz,_⟩|⟨_,e1,e2⟩
  .cases hz
  .cases hz
  .refine Yz ⟨_,rfl,λz=>(nomatch z),?_⟩;have e3:e9 p q=false:=by unfold e9;rw[e1,e2];simp
   rw[e3] at h;exact h
theorem QC(hh:A.handled=none)(ha:iE s.heap a p)(hb:iE s.heap b q)(hu:A.in1.units<adi)(h:∀ h' tk,(∀ c o,s.heap.get? c=some o->h'.get? c=some o)->Q (.ref (if e9 q p=true then b else a)) { s with heap:=h',toks:=tk }):YT (model prog w) A (call (.builtin "min") [.ref a,.ref b]) Q E s:=by
 have nm:(toString "min" ++ toString ".loop" : String) = "min.loop" := by decide
 refine call_function_tree afH afl afm (PySem.F.args_min2 _ _) ?_;show YT _ A.in1 (aaK "min" ["key","default"] 0 ⟨[],[]⟩ >>= _) _ _ s;refine Yt (adB (show aaK "min" ["key","default"] 0 ⟨[],[]⟩=pure [none,none] from rfl) ?_);show YT _ A.in1 (agL [.ref a,.ref b] >>= _) _ _ s;refine Yt (ZR ?_);have hT:(s.heap.push { cls:=.type "tuple",data:=.seq #[.ref a,.ref b] }).IsTuple s.heap.objs.size #[.ref a,.ref b]:=⟨_,YH _ rfl,rfl,0,rfl⟩
 refine Yt (aeS hT ?_);show YT _ A.in1 (ahc [] >>= _) _ _ _;refine Yt (ZR ?_);generalize e1:s.heap.push { cls:=.type "tuple",data:=.seq #[.ref a,.ref b] }=h1 at hT;have z1:h1.objs.size=s.heap.objs.size+1:=by rw[<- e1];exact aap ..
 have k1:∀ c o,s.heap.get? c=some o->h1.get? c=some o:=λc o e=>by rw[<- e1];exact Yy _ e
 dsimp only;generalize e2:h1.push { cls:=.type "tuple_iterator",data:=.fields #[.ref s.heap.objs.size,.int 0 0] }=h2;have z2:h2.objs.size=h1.objs.size+1:=by rw[<- e2];exact aap ..
 have k2:∀ c o,h1.get? c=some o->h2.get? c=some o:=λc o e=>by rw[<- e2];exact Yy _ e
 have W:=Walks.tuple (prog:=prog) (w:=w) (A:=A.in1) hh h1.objs.size s.heap.objs.size (by rw[z1];exact YS (abC _)) #[.ref a,.ref b];have xF:h2.IsTupleIter h1.objs.size s.heap.objs.size 0/\h2.IsTuple s.heap.objs.size #[.ref a,.ref b]:=⟨⟨_,by rw[<- e2];exact YH _ rfl,rfl,rfl⟩,by rw[<- e2];exact hT.push _⟩
 have zs:h2.objs.size∉[h1.objs.size,s.heap.objs.size]:=λz=>by
  simp only[YV,abE,or_false] at z;rcases z with z|z
  .rw[z2] at z;exact afR _ z
  .rw[z2,z1] at z;exact absurd z (by intro z;have:s.heap.objs.size<s.heap.objs.size+1+1:=abt (abC _);rw[z] at this;exact Z6 _ this)
 have nS:h2.objs.size∉[h1.objs.size]:=λz=>zs (by simp at z;simp[z]);have up:∀ c o,s.heap.get? c=some o->c∉[h1.objs.size]/\c≠h2.objs.size/\(h2.push { cls:=.type "list",data:=.seq #[] }).get? c=some o:=λc o e=>by have l1:=YA (k1 c o e);have l2:=YA (k2 c o (k1 c o e));exact⟨λz=>by simp at z;rw[z] at l1;exact Z6 _ l1,YS l2,Yy _ (k2 c o (k1 c o e))⟩
 let G:aa4->Prop:=λh=>iE h a p/\iE h b q;have bF:∀ (x:YN) (r:P2),iE s.heap x r->x∉[h1.objs.size]/\x≠h2.objs.size:=λx r hx=>by obtain⟨o,_,_,_,e,_⟩:=hx;exact⟨(up x o e).1,(up x o e).2.1⟩
 have hG:∀ h h',G h->(∀ b o,b∉[h1.objs.size]->b≠h2.objs.size->h.get? b=some o->h'.get? b=some o)->G h':=λh h' g k=>⟨g.1.keep λo e=>k a o (bF a p ha).1 (bF a p ha).2 e,g.2.keep λo e=>k b o (bF b q hb).1 (bF b q hb).2 e⟩
 let bt:Nat->Nat->Bool:=λi j=>e9 (if i=0 then p else q) (if j=0 then p else q);have FX:∀ i v,(#[Y7 a,Y7 b]:Array YB)[i]?=some v->(i=0/\v = .ref a)∨(i=1/\v = .ref b):=λi v e=>by
  match i,e with
  | 0,e=>cases e;exact .inl ⟨rfl,rfl⟩
  | 1,e=>cases e;exact .inr ⟨rfl,rfl⟩
  | i+2,e=>simp at e
 have qu:∀ i j vi vj (s:YK) (Q:YB->YK->Prop) (E:YB->YK->Prop),(#[Y7 a,Y7 b]:Array YB)[i]?=some vi->(#[Y7 a,Y7 b]:Array YB)[j]?=some vj->G s.heap->Q (.bool (bt i j)) s->YT (model prog w) A.in1 (adA .Lt vi vj) Q E s:=by
  intro i j vi vj s Q E ei ej g hq;rcases FX i vi ei with ⟨rfl,rfl⟩|⟨rfl,rfl⟩<;>rcases FX j vj ej with ⟨rfl,rfl⟩|⟨rfl,rfl⟩
  .exact u7 g.1 g.1 hu hq
  .exact u7 g.1 g.2 hu hq
  .exact u7 g.2 g.1 hu hq
  .exact u7 g.2 g.2 hu hq
 have g0:G (h2.push { cls:=.type "list",data:=.seq #[] }):=⟨ha.keep λo e=>(up a o e).2.2,hb.keep λo e=>(up b o e).2.2⟩
 have oS:(h2.push { cls:=.type "list",data:=.seq #[] }).get? h2.objs.size=some { cls:=.type "list",dict:=none,data:=.seq #[] 0,slots:=#[] }:=YH _ rfl;have ot:=W.frame 0 h2 (h2.push { cls:=.type "list",data:=.seq #[] }) xF λb _ o q=>Yy _ q;rw[nm];refine Yz ⟨aaB aaN _,?_⟩;refine ZI abZ ?_;rw[Zv aaN _];show YT _ A.in1 (aeX (.ref h2.objs.size) >>= _) _ _ _;refine Yt (abx oS rfl ?_);show YT _ A.in1 (tryCatch (abe (.ref h1.objs.size)) _ >>= _) _ _ _;refine Yt (aby (W.item 0 _ _ _ (by simp) ot λv h3 tk pv gj kp=>?_));have iu:=kp _ _ nS oS;show YT _ A.in1 (adn h2.objs.size (λ_=>#[v,v]) >>= _) _ _ _;refine Yt ?_;refine aaJ iu rfl ?_;rw[nm];have g3:G h3:=hG _ _ g0 λb o hw _ e=>kp b o hw e;refine Yz ⟨aaB aaN _,(DG (by decide) abZ aaN) W hG qu zs 1 0 _ v _ (by simp) (W.frame _ _ _ gj λb hf o e=>?_) (hG _ _ g3 λb o _ k6 e=>(YM _ _ (Zt k6)).trans e) pv (Zo _ iu rfl) λv2 h4 QD p4 k4=>?_⟩
 .exact (YM _ _ (λz:h2.objs.size=b=>zs (by rw[z];exact hf))).trans e
 .have ev:v2 = .ref (if e9 q p=true then b else a):=by
   have e4:(#[Y7 a,Y7 b]:Array YB)[acC bt 1]?=some v2:=by simpa using p4
   have yy:acC bt 1=if e9 q p=true then 1 else 0:=by show (if bt 1 0 then 1 else 0)=_;rfl
   rw[yy] at e4;by_cases hl:e9 q p=true
   .rw[if_pos hl] at e4 ⊢;cases e4;rfl
   .rw[if_neg hl] at e4 ⊢;cases e4;rfl
  subst ev;refine h h4 QD λc o e=>?_;obtain⟨u1,u2,u3⟩:=up c o e;exact k4 c o u1 u2 ((YM _ _ (Zt u2)).trans (kp c o u1 u3))
def FY(H:Hp)(Q:VK)(xs:List V):Prop:=∃ (a b:YN) (p q:P2),xs=[.ref a,.ref b]/\H a=some (.tup [.int p.1,.int p.2])/\H b=some (.tup [.int q.1,.int q.2])/\Q (.ref (if e9 q p=true then b else a)) H
theorem QE(hc:X.calm=true)(hu:X.A.units+1<adi):dN X (.builtin "min") (λxs H Q=>FY H Q xs):=by
 intro pins s σ H xs us Q I r h;obtain⟨a,b,p,q,rfl,ha,hb,hq⟩:=h;obtain⟨u,v,rfl,ru,rv⟩:=vals2 r;cases ru;cases rv;have pr:∀ (x:YN) (r:P2),H x=some (.tup [.int r.1,.int r.2])->iE s.heap x r:=λx r hx=>by
  obtain⟨_,ai,hv,hi⟩:=(show bw X.prog X.w H s.heap x (.tup [.int r.1,.int r.2]) from I.ao x _ hx)
  obtain⟨u1,u2,rfl,⟨t1,rfl⟩,⟨t2,rfl⟩⟩:=vals2 hv;obtain⟨o,ho,aX,n,hd⟩:=hi;exact⟨o,t1,t2,n,ho,aX,hd⟩
 exact QC (I.ok.hd hc) (pr a p ha) (pr b q hb) (show X.A.units+1<adi from hu) λh' tk k=>⟨.ref _,H,I.kept k,rfl,hq⟩
end
local macro_rules | `(tactic| walk_at "o") => `(tactic| ((try simp only [PySem.Addr] at *); lia))
section
end
section
def FZ(vs:List YB)(kis:List (List Int))(i:Nat):Prop:=∃ x t,vs[i]?=some (.int x t)/\kis.getD i []=[x]
theorem QF(hk:∀ i,i<vs.length->FZ vs kis i):uR prog w h vs kis:=λh2=>by
 refine⟨oneType',λA E s e=>⟨λQ q=>PySem.W.kas_kind (T:=.type "int") h2 (λv hv=>?_) (by decide) (by decide) q,λi j hi hj C q=>?_⟩⟩
 .obtain⟨i,hi,rfl⟩:=aeM hv;obtain⟨x,tt,e,_⟩:=hk i hi;rw[Yx hi] at e;rw[Option.some.inj e];exact PySem.W.Looks.now
 .obtain⟨x1,t1,a1,l1⟩:=hk i hi;obtain⟨x2,t2,a2,l2⟩:=hk j hj;rw[Yv,Yv,a1,a2];refine PySem.W.kat_lt_int (cast (congrArg (λb=>C b s) ?_) q);unfold b7;rw[l1,l2,HT.kO];by_cases e:x1=x2
  .rw[if_pos e,e];simp[HT.lexLt]
  .rw[if_neg e]
theorem QG(hl:kis.length=vs.length)(bH:vs.length<64)(hk:∀ i,i<vs.length->FZ vs kis i)(qF:∀ (A':aaq) (Q':List YB->YK->Prop) (E':YB->YK->Prop),A'.handled=A.handled->(∀ h' tk,(∀ b o,s.heap.get? b=some o->h'.get? b=some o)->s.heap.objs.size<=h'.objs.size->Q' vs { s with heap:=h',toks:=tk })->YT (model prog w) A' (collect (.ref r)) Q' E' s)(q:∀ l h' tk,s.heap.objs.size<=l->(∀ b o,s.heap.get? b=some o->h'.get? b=some o)->(∃ c,h'.get? l=some (ZQ "list" (ZT ((bU (b7 kis) vs.length).toList.map λi=>vs.getD i Value.none)) c))->Q (.ref l) { s with heap:=h',toks:=tk }) :
 YT (model prog w) A (call (.builtin "sorted") [.ref r]) Q E s:=EX hl bH (λg _=>QF hk) qF q
end
noncomputable def m6(w:aaa):Bool:=!(w.params.followText "set-order")
section
noncomputable abbrev iF(w:aaa):Obj:={ cls:=.type "set",dict:=none,data:=.set #[] 0 (.fresh 0 0 (m6 w)) }
theorem QH(a:YB)(h:Q₁ (.ref s.heap.objs.size) { s with heap:=s.heap.push (iF w) }) :
 abv (model prog w) A (.call (.builtin "set.__new__") ⟨[.type "set",a],[]⟩) (wants Q₁ E) s:=by
 refine agj (show YT _ A.in1 (do acm "set.__new__" ⟨[.type "set",a],[]⟩;again (.builtin "set.__new__" ⟨[.type "set",a],[]⟩)) _ _ s from ?_);refine Yt (adB (PySem.F.newCall_set_1 a) (Yz ⟨aaB aei _,ZI PySem.F.entry_set_new ?_⟩));rw[Zv aei _];unfold aas.«set.__new__» Builtin.Frozenset.newClass;have vc:=PySem.sub_set_self;obtain⟨hp,g,d,tk,os⟩:=s;dsimp only;wp_walk;refine abH (Yz ?_);dsimp only;simp only[newObj];exact Yt (wpAny_alloc (Yz (Yz h)))
theorem QJ{h:aa4}{S:YN}{o:Obj}{es es':Array (Int × YB)}{ep:Nat}{t t':agO}(g1:h.get? S=some o)(g3:o.data = .set es ep t) :
 (h.update S (agB es' t')).get? S=some { o with data:=.set es' (ep+1) t' }:=by
 have:=Zo (agB es' t') g1 (by rw[putSet_of es' t' g3];rfl);rw[putSet_of es' t' g3] at this;exact this
theorem F1:∀ {xs:List α} {l:List β},l.Perm (xs.map f)->∃ ys:List α,l=ys.map f/\ys.Perm xs:=by
 intro xs l h;generalize hz:xs.map f=z at h
 induction h generalizing xs with
 | nil=>exact⟨[],rfl,by cases xs with|nil=>exact .nil|cons=>cases hz⟩
 | @cons a l1 l2 p ih =>
  cases xs with
  | nil=>cases hz
  | cons x xs =>
   obtain⟨e1,e2⟩:=List.cons.inj hz;obtain⟨ys,rfl,q⟩:=ih e2;exact⟨x::ys,by rw[<- e1];rfl,q.cons x⟩
 | swap a b l =>
  cases xs with
  | nil=>cases hz
  | cons x xs =>
   cases xs with
   | nil=>simp at hz
   | cons y xs =>
    simp only[YW,List.cons.injEq] at hz;obtain⟨e1,e2,e3⟩:=hz;exact⟨y::x::xs,by simp[e1,e2,e3],.swap x y xs⟩
 | trans p q xV xW =>
  obtain⟨ys,e,r⟩:=xW hz;obtain⟨zs,e',r'⟩:=xV e.symm;exact⟨zs,e',r'.trans r⟩
end
theorem F2:Slot "set_iterator" "__iter__" "set_iterator.__iter__" :=
 .of (owner := "set_iterator") (n := "__iter__") (by rw[acI,abk];kernel_rfl) (by decide +kernel) (by decide +kernel) (by decide +kernel)
  (by first|exact .inl (by decide +kernel)|exact .inr (by decide +kernel)) (by rw[aeC];kernel_rfl)
theorem QK:acT table "set_iterator.__iter__" = some aas.«dict_keyiterator.__iter__» :=
 entryFor_alias (id' := "dict_keyiterator.__iter__") (by kernel_rfl) (by first|rfl|decide +kernel) (by decide +kernel) (by kernel_rfl)
theorem QL(a:YB):adM "set_iterator.__iter__" ⟨[a],[]⟩:=by unfold adM;rw[signature?_of (id := "set_iterator.__iter__") (n:=['_','_','r','e','t','i','_','_']) (o:=['r','o','t','a','r','e','t','i','_','t','e','s']) (by kernel_rfl) FR];kernel_rfl
theorem F3(f:Nat->Nat):∀ (n k:Nat) (left:List α) (out:Array α),left.length=n->(pickOrder.go f n k left out).toList.Perm (out.toList++left)
 | 0,k,left,out,h=>by obtain rfl:left=[]:=Z1.mp h;unfold pickOrder.go;simp
 | n+1,k,left,out,h=>by have hl:f k % left.length<left.length:=Nat.mod_lt _ (by lia);unfold pickOrder.go;rw[Yx hl];refine (F3 f n (k+1) _ _ (by rw[List.length_eraseIdx_of_lt hl];lia)).trans ?_;rw[aft,abo];refine List.Perm.append_left _ ?_;have:=List.perm_middle (a:=left[f k % left.length]) (l₁:=left.take (f k % left.length)) (l₂:=left.drop (f k % left.length+1));rw[List.eraseIdx_eq_take_drop_succ];refine .trans ?_ (.of_eq (aaT (f k % left.length) left));rw[ZS hl];exact this.symm
theorem QM(f:Nat->Nat)(xs:Array α):(ag6 f xs).toList.Perm xs.toList:=by unfold ag6;simpa using F3 f xs.size 0 xs.toList #[] (by simp)
section
noncomputable def iG(w:aaa)(S:YN)(ep:Nat)(es:Array (Int × YB)):Array (Int × YB):=if w.params.followText "set-order" then ag6 (w.params.setOrder S ep) es else es
theorem yS(w:aaa)(S:YN)(ep:Nat)(es:Array (Int × YB)):(iG w S ep es).toList.Perm es.toList:=by
 unfold iG;split
 .exact QM _ _
 .exact .refl _
structure oW(w:aaa)(S:YN)(o:Obj)(ep:Nat)(t:agO)(L:List (Nat × Int × YB)):Prop where
 cls:o.cls = .type "set"
 dat:o.data = .set (L.map (·.2)).toArray ep t
 tok:gD t L
 led:t.led=m6 w
 pln:t.plain=true
theorem QN(x:oW w S o ep t L)(h:s.heap.get? S=some o)(q:Q false s):YT (model prog w) A (setDrawn S) Q E s:=by unfold setDrawn agC;refine Yt (ab9 h x.dat x.tok.fits ?_);dsimp only;refine Yt (Yt (abH (Yz (Yz ?_))));refine cast (congrArg (λb=>Q b s) ?_) q;symm;rw[Bool.and_eq_false_iff];right;show (!t.plain && _)=false;rw[x.pln];rfl
noncomputable abbrev yT(S:YN)(n ep:Nat)(sl i:Int):Obj:={ cls:=.type "set_iterator",data:=.fields #[abY sl,abY i,.ref S,abY n,abY ep] }
theorem QO(x:oW w S o ep t L)(h:s.heap.get? S=some o)(hQ:Q (.ref s.heap.objs.size) { s with heap:=s.heap.push (yT S L.length ep 0 0) }):YT (model prog w) A (agv (.ref S)) Q E s:=by have hT:s.TypeIs (.ref S) "set" := ⟨o,h,x.cls⟩;refine adp hT agk (ZZ agk hT Qy ?_ (F.args_set_iter_1 _));unfold aas.«frozenset.__iter__»;refine Yt (m:=Builtin.Frozenset.slot0 _ _) (Yz ?_);refine Yt (m:=Builtin.Frozenset.sizeOf _) (Yt (acJ h x.dat x.tok.fits (Yz ?_)));refine Yt (QN x h ?_);simp only[Y5,if_false];refine Yt (Yz ?_);refine Yt (wpAny_setEpoch_of h x.dat x.tok.fits ?_);refine Yt (ZR (Yz ⟨_,rfl,"set_iterator",_,⟨_,YH _ rfl,rfl⟩,oV.lookup,?_⟩));refine cast (congrArg (λb=>Q _ { s with heap:=s.heap.push b }) ?_) hQ;simp[yT]
theorem F4(x:oW w S o ep t L)(h:s.heap.get? S=some o)(hb:w.params.followText "set-order" = false->SetTable.below t.place sl=i)(q:∀ eo,(w.params.followText "set-order" = false->i<L.length->SetTable.below t.place eo=i+1)->Q (((iG w S ep (L.map (·.2)).toArray)[i]?).map λe=>(e.2,eo)) s):YT (model prog w) A (ahe S sl i ep) Q E s:=by
 unfold ahe agC;refine Yt (ab9 h x.dat x.tok.fits ?_);dsimp only;refine Yt (Yt (abH (Yz ?_)));unfold iG at q;cases hf:w.params.followText "set-order" with
 | true =>
  simp only[hf,if_true] at q;rw[if_pos (show (model prog w).w.params.followText "set-order" = true from hf),if_neg (by simp)];unfold setWalk agC;refine Yt (Yt (ab9 h x.dat x.tok.fits ?_));refine Yt (Yt (abH (Yz ?_)));rw[if_pos (show (model prog w).w.params.followText "set-order" = true from hf)];exact Yt (abH (Yz (Yz (q sl (λhz=>nomatch hz)))))
 | false =>
  simp only[hf,Y5,if_false] at q;rw[if_neg (show ¬ (model prog w).w.params.followText "set-order" = true from by rw[show (model prog w).w.params.followText "set-order" = false from hf];decide)];refine abU (λz=>absurd (show (!t.plain && _)=true from z) (by rw[x.pln];simp)) (λ_=>?_);have hl:t.led=true:=by rw[x.led];unfold m6;rw[hf];rfl
  refine Yt ?_;show YT _ _ (if (!t.led && !(L.map (·.2)).toArray.isEmpty)=true then _ else pure _) _ _ _;rw[if_neg (by rw[hl];simp)];refine Yz (Yz ?_);rw[hb hf];by_cases hi:i<L.length
  .have e1:(L.map (·.2)).toArray[i]?=some L[i].2:=by simp[hi]
   have e2:t.place[i]?=some L[i].1:=by rw[x.tok.pl];simp[hi]
   have:=q (L[i].1+1) λ_ _=>x.tok.next hi
   rw[e1] at this ⊢;rw[e2];exact this
  .have e1:(L.map (·.2)).toArray[i]?=none:=by simp;lia
   have:=q 0 λ_ hz=>absurd hz hi;rw[e1] at this ⊢;exact this
theorem QP(hh:A.handled=none)(x:oW w S o ep t L)(a7:S≠I):Walks prog w A I [I,S] [I] L.length (λi v=>((iG w S ep (L.map (·.2)).toArray)[i]?).map (·.2)=some v)
 (λi h=>h.get? S=some o/\∃ sl:Nat,h.get? I=some (yT S L.length ep sl i)/\(w.params.followText "set-order" = false->SetTable.below t.place sl=i)) where
 sub:=λb hb=>by simp at hb;simp[hb]
 frame:=λ_ _ _ st hk=>⟨hk S (by simp) _ st.1,let ⟨sl,a,b⟩:=st.2;⟨sl,hk I (by simp) _ a,b⟩⟩
 item:=λi s Q E hi st hQ=>by
  obtain⟨h1,sl,hI,hb⟩:=st;have hT:s.TypeIs (.ref I) "set_iterator" := ⟨_,hI,rfl⟩;have hlen:(iG w S ep (L.map (·.2)).toArray).size=L.length:=by have:=(yS w S ep (L.map (·.2)).toArray).length_eq;simpa using this
  have cu:i<(iG w S ep (L.map (·.2)).toArray).size:=by lia
  unfold abe;refine Yt (abq (Z2 (name:=YG "__next__") hT oV
   (ZZ oV hT FT ?_ (FU _))))
  unfold aas.«set_iterator.__next__»;refine Yt (Yz (Yt (abA hI rfl ?_)));show YT _ _ (setEntries S >>= _) _ _ _;refine Yt (acJ h1 x.dat x.tok.fits ?_);refine abU (λz=>absurd z (by simp)) (λ_=>?_);show YT _ _ (ahe S (aej (sl:Int)) (aej (i:Int)) (aej (ep:Int)) >>= _) _ _ _;rw[Zq,Zq,Zq];refine Yt (F4 x h1 hb λeo jd=>?_);rw[Zj cu];dsimp only [Option.map_some];refine Yt (aca hI rfl (by simp) ?_);have F5:=Zo (abr (·.setIfInBounds 0 (abY (eo:Int)))) hI rfl;refine Yt (aca F5 rfl (by simp[abr]) ?_);have QQ:=Zo (abr (·.setIfInBounds 1 (abY ((i:Int)+1)))) F5 rfl;have F6:∀ (b:YN) (u:Obj),b≠I->s.heap.get? b=some u->((s.heap.update I (abr (·.setIfInBounds 0 (abY (eo:Int))))).update I (abr (·.setIfInBounds 1 (abY ((i:Int)+1))))).get? b=some u:=λb u hb e =>
   (YM _ _ (Zt hb)).trans ((YM _ _ (Zt hb)).trans e)
  refine Yz ⟨_,rfl,Yz (hQ _ _ s.toks (by rw[Zj cu];rfl) ⟨F6 S o a7 h1,eo,QQ,λhf=>jd hf hi⟩ λb u hb e=>F6 b u (by simpa using hb) e)⟩
 done:=λs Q E st hQ=>by
  obtain⟨h1,sl,hI,hb⟩:=st;have hT:s.TypeIs (.ref I) "set_iterator" := ⟨_,hI,rfl⟩;have hlen:(iG w S ep (L.map (·.2)).toArray).size=L.length:=by have:=(yS w S ep (L.map (·.2)).toArray).length_eq;simpa using this
  unfold abe;refine Yt (abq (Z2 (name:=YG "__next__") hT oV
   (ZZ oV hT FT ?_ (FU _))))
  unfold aas.«set_iterator.__next__»;refine Yt (Yz (Yt (abA hI rfl ?_)));show YT _ _ (setEntries S >>= _) _ _ _;refine Yt (acJ h1 x.dat x.tok.fits ?_);refine abU (λz=>absurd z (by simp)) (λ_=>?_);show YT _ _ (ahe S (aej (sl:Int)) (aej (L.length:Int)) (aej (ep:Int)) >>= _) _ _ _;rw[Zq,Zq,Zq];refine Yt (F4 x h1 hb λeo jd=>?_);rw[abc (by lia)];show YT _ _ (afU (.ref I) 2 .none >>= _) _ _ s;refine Yt (aca hI rfl (by simp) ?_);show YT _ _ (newExc (.type "StopIteration") [] >>= _) _ _ _;refine Yt ?_;simp only[newExc,agL];refine Yt (ZR ?_ (by size_fits));refine Yt (m:=ac4 _ _) (adB (a:=Value.none) (by first|rfl|(simp only[ac4];rfl)) ?_);refine ZR ?_ (by size_fits);simp only[raiseNew];refine Yt (wpAny_handled ?_);rw[show A.in1.handled=none from hh];refine Yt (Yz (wpAny_throw ?_));refine Yt (abG (T := "StopIteration") (b:=true) ⟨_,YH _ rfl,rfl⟩ aeA ?_);refine Yz (hQ _ s.toks λb u hb e=>(((ZO ..).extBut.push _).push _) b u (by simpa using hb) e)
 self:=λ_ s _ _ st hQ=>by obtain⟨h1,sl,hI,hb⟩:=st;have hT:s.TypeIs (.ref I) "set_iterator" := ⟨_,hI,rfl⟩;refine adp hT F2 (ZZ F2 hT QK ?_ (QL _));show YT _ _ (ret (.ref I)) _ _ s;exact Yz ⟨_,rfl,"set_iterator",_,hT,oV.lookup,hQ⟩
theorem QS(x:oW w S o ep t L):aeB prog w "set" S S L.length (λi v=>((iG w S ep (L.map (·.2)).toArray)[i]?).map (·.2)=some v) (λh=>h.get? S=some o) where
 type:=λ_ h=>⟨o,h,x.cls⟩
 there:=λ_ h=>⟨YA h,YA h⟩
 keep:=λ_ _ h hk=>hk S (.inl rfl) o h
 notList:=by decide
 notTuple:=by decide
 hint:=λ_ _ _ _ h hq=>Qz ⟨o,h,x.cls⟩ hq
 iter:=λ_ _ hh h=>⟨_,_,(λ_ _ hq=>QO x h hq),QP hh x (YS (YA h)),
  ⟨Yy _ h,0,YH _ rfl,λ_=>x.tok.zero⟩⟩
noncomputable abbrev kf(m:Int × acK):Int × YB:=(afV m.1,.int m.1 m.2)
def kg(h:aa4)(S:YN)(M:List (Int × acK))(led:Bool):Prop :=
 ∃ o ep t L,h.get? S=some o/\o.cls = .type "set" /\ o.data = .set (L.map (·.2)).toArray ep t/\gD t L/\t.led=led/\t.plain=true/\L.map (·.2)=M.map kf
theorem QT(prog:Zy)(w:aaa){M:List (Int × acK)}:ElemsOf (aci prog w) (M.map kf):=λe he=>by obtain⟨m,_,rfl⟩:=YO.mp he;exact⟨⟨m.1,by simp[aci,ab2],rfl⟩,rfl⟩
theorem add_int(hS:kg s.heap S M led)(hlen:M.length<2)(h0:k∈M.map (·.1)->Q false s)(h1:k∉M.map (·.1)->∀ h' M',Heap.SameBut S s.heap h'->kg h' S M' led->M'.Perm ((k,tt)::M)->Q true { s with heap:=h' }) :
 YT (model prog w) A (setAddHashed S (.int k tt) (afV k)) Q E s:=by
 obtain⟨o,ep,t,L,g1,g2,g3,tk,g4,g5,g7⟩:=hS;have Yc:L.length=M.length:=by have:=congrArg List.length g7;simpa using this
 have qQ:ElemsOf (aci prog w) (L.map (·.2)).toArray.toList:=by rw[acL,g7];exact QT prog w
 unfold setAddHashed setAddHashedIn;refine ZN (Yt (ab9 g1 g3 tk.fits ?_));dsimp only;rw[byScan_of (knd:=aci prog w) rfl (by rw[YI,Yw];unfold scanBound;lia) qQ];simp only[if_true];unfold setAddByScan;refine Yt (Yt (abn ?_));refine Yt (wpAny_setScan_of (knd:=aci prog w) (k:=k) (by simp[aci,ab2]) g1 g3 tk.fits qQ ?_);rw[acL,g7];by_cases bK:k∈M.map (·.1)
 .obtain⟨m,hm,hmk⟩:=YO.mp bK;cases hf:agQ (λe=>(aci prog w).is k e.2) (M.map kf) with
  | none =>
   have:=ac8.mp hf (kf m) (YO.mpr ⟨m,hm,rfl⟩);rw[<- hmk] at this;simp[aci,ab2] at this
  | some j =>
   dsimp only;exact Yz (Yz (h0 bK))
 .have hf:agQ (λe=>(aci prog w).is k e.2) (M.map kf)=none:=by refine ac8.mpr λe he=>?_;obtain⟨m,hm,rfl⟩:=YO.mp he;simp only[aci,ab2];exact beq_eq_false_iff_ne.mpr λz=>bK (YO.mpr ⟨m,hm,z⟩)
  rw[hf];dsimp only;obtain⟨j,j0,j1⟩:=tk.free (by lia) (afV k);obtain⟨t',p,L',p1,p2,p3,p5,p6,p7,hperm⟩:=tk.put (by lia) j1 (afV k) (aaX k tt);have QU:layNew t (M.map kf).toArray (afV k) (.int k tt)=((L'.map (·.2)).toArray,t',false,false):=by rw[<- g7];unfold layNew;rw[j0];dsimp only;rw[p1,p3];have:=p2.fits;unfold SetTable.orStandIn;rw[this];rfl
  rw[QU];dsimp only;refine Yt ?_;show YT _ _ (pure ()) _ _ _;refine Yz ?_;rw[p6,g5];simp only[if_true];refine Yt ?_;rw[hashByValue_scannable 8 (show (aaX k tt).scannable=true from rfl)];refine Yz ?_;rw[show plainKind (aaX k tt)=true from rfl];simp only[if_true];have hsz:(L'.map (·.2)).toArray.size<=Y0:=by have:=hperm.length_eq;simp at this ⊢;rw[this];exact YE (show _<=64 by lia) (by decide)
  refine Yt (wpAny_storeSet_of g1 g3 ?_ hsz);have gS:=QJ (es':=(L'.map (·.2)).toArray) (t':=t') g1 g3;have QV:=ZO s.heap S (agB (L'.map (·.2)).toArray t');have oX:(L'.map (·.2)).Perm (((k,tt)::M).map kf):=by refine (hperm.map (·.2)).trans ?_;simp only[YW,g7];exact .refl _
  have QW:t'.tooFull=false:=by unfold SetTable.tooFull;rw[p7,p2.ma];simp;lia
  rw[QW];simp only[ags,Y5,if_false];obtain⟨M',e1,e2⟩:=F1 oX;exact Yz (Yz (h1 bK _ M' QV ⟨_,_,t',_,gS,g2,rfl,p2,p5.trans g4,p6.trans g5,e1⟩ e2))
def qR(key:Nat->Int)(i:Nat)(M:List (Int × acK)):Prop :=
 (M.map (·.1)).Nodup/\(∀ m∈M,∃ j,j<i/\m.1=key j)/\(∀ j,j<i->key j∈M.map (·.1))/\M.length<=i
theorem QX(e:h.get? S=some (iF w)):kg h S [] (m6 w) :=
 ⟨_,0,_,([]:List (Nat × Int × YB)),e,rfl,rfl,⟨rfl,rfl,rfl,.inl rfl⟩,rfl,rfl,rfl⟩
theorem QY{R:afx->YK->Prop}{I:YN}{fp wr:List YN}{G:Array GenState->Array GenState->Prop}{n:Nat}{P:Nat->YB->Prop}{St:Nat->YK->Prop}(W:WalksS prog w A.in1 I fp wr G n P St)(S:YN)(ou:S∉fp){key:Nat->Int}{led:Bool}(QZ:∀ i v,P i v->∃ tt,v = .int (key i) tt)(hn:n<=2) :
 ∀ (k i:Nat) (s:YK) (M:List (Int × acK)),n-i=k->i<=n->St i s->kg s.heap S M led->qR key i M ->
  (∀ s' M',Moved (S::wr) G s s'->kg s'.heap S M' led->qR key n M'->R (.ok (.ret .none)) s') ->
  abv (model prog w) A (.builtin "set.update.loop" ⟨[.ref S,.ref I],[]⟩) R s:=by
 have F7:S∉wr:=λh=>ou (W.sub _ h);have vc:∀ b∈wr,b∈S::wr:=λb hb=>Zu _ hb;intro k
 induction k with
 | zero =>
  intro i s M hk hi cc hS hM hR;obtain rfl:i=n:=by lia
  refine ZI abB ?_;rw[Zv aaD _];refine show YT _ A.in1 (abe (.ref I) >>= _) _ _ s from Yt (W.done s _ _ cc λs' hm=>?_);exact show YT _ A.in1 (ret Value.none) _ _ s' from Yz (hR s' M (hm.mono vc) (let ⟨o,ep,t,L,ho,rest⟩:=hS;⟨o,ep,t,L,hm.heap S _ F7 ho,rest⟩) hM)
 | succ k ih =>
  intro i s M hk hi cc hS hM hR;have aU:i<n:=by lia
  refine ZI abB ?_;rw[Zv aaD _];refine show YT _ A.in1 (abe (.ref I) >>= _) _ _ s from Yt (W.item i s _ _ aU cc λv s' hP Q3 hm=>?_);obtain⟨tt,rfl⟩:=QZ i v hP;have kh:kg s'.heap S M led:=let ⟨o,ep,t,L,ho,rest⟩:=hS;⟨o,ep,t,L,hm.heap S _ F7 ho,rest⟩;refine show YT _ A.in1 (holding [aaX (key i) tt] (setAdd S (.int (key i) tt)) >>= _) _ _ s' from Yt (ZN ?_);unfold setAdd;refine ZN (Yt ((aci prog w).pyHash (k:=key i) (by simp[aci,ab2]) ?_));have go:∀ (h':aa4) (M':List (Int × acK)),Heap.SameBut S s'.heap h'->kg h' S M' led->qR key (i+1) M' ->
   YT (model prog w) A.in1 (again (.builtin "set.update.loop" ⟨[.ref S,.ref I],[]⟩)) (λfin s'=>match fin with|.done f=>R (.ok f) s'|.again c'=>c'.quiet=true/\abv (model prog w) A c' R s') (λe s'=>R (.error e) s') { s' with heap:=h',toks:=s'.toks+1 }:=by
   intro h' M' je yU Q4;refine Yz ⟨aaB aaD _,ih (i+1) _ M' (by lia) aU (W.frame _ s' _ _ Q3 (acA _) λb hb o e=>?_) yU Q4 λqi Q5 Q6 Q7 Q8=>?_⟩
   .rw[je.2 b (λh:b=S=>ou (by rw[<- h];exact hb))];exact e
   .refine hR qi Q5 (Moved.trans W.gtrans ((hm.mono vc).then_heap (acA _) λb o hb e=>?_) Q6) Q7 Q8;rw[je.2 b (λh:b=S=>hb (by rw[h];exact abd))];exact e
  refine add_int (s:={ s' with toks:=s'.toks+1 }) (M:=M) kh (by have:=hM.2.2.2;lia) (λbK=>?_) (λbK h' M' je yU oX=>?_)
  .refine go s'.heap M (Heap.SameBut.refl S s'.heap) kh ⟨hM.1,λm hm=>?_,λj hj=>?_,by have:=hM.2.2.2;lia⟩
   .obtain⟨j,hj,e⟩:=hM.2.1 m hm;exact⟨j,by lia,e⟩
   .by_cases e:j=i
    .rw[e];exact bK
    .exact hM.2.2.1 j (by lia)
  .refine go h' M' je yU ⟨((oX.map (·.1)).nodup_iff).mpr (ZY.mpr ⟨bK,hM.1⟩),λm hm=>?_,λj hj=>?_,by have:=oX.length_eq;have:=hM.2.2.2;simp at *;lia⟩
   .rcases YV.mp (oX.mem_iff.mp hm) with rfl|hm
    .exact⟨i,by lia,rfl⟩
    .obtain⟨j,hj,e⟩:=hM.2.1 m hm;exact⟨j,by lia,e⟩
   .refine ((oX.map (·.1)).mem_iff).mpr ?_;by_cases e:j=i
    .rw[e];exact abd
    .exact Zu _ (hM.2.2.1 j (by lia))
theorem Ra(hh:A.handled=none)(hl:s.heap.IsList l items)(hn:items.size<=2)(hit:∀ (i:Nat) (v:YB),items[i]?=some v->∃ tt,v = .int (key i) tt)(h:∀ (h':aa4) (tk:Nat) (M:List (Int × acK)),kg h' s.heap.objs.size M (m6 w)->qR key items.size M->(∀ b o,b<s.heap.objs.size->s.heap.get? b=some o->h'.get? b=some o)->Q (.ref s.heap.objs.size) { s with heap:=h',toks:=tk }) :
 YT (model prog w) A (call (.type "set") [.ref l]) Q E s:=by
 obtain⟨c,tl,hmro⟩:=PySem.F.called_set.mro;have Yd:=PySem.F.called_set.made;have vc:=PySem.F.called_set.sub;refine ael (agj (show YT _ _ (callAny (.type "set") _) _ _ _ from Yz ⟨Code.quiet_builtin _ (by decide +kernel),ZI PySem.F.entry_type_call ?_⟩));rw[Around.under_plain (weight_type_call_type "set" [.ref l] []) rfl];have h1:=PySem.F.called_set.notType;have h2:=PySem.F.called_set.canCreate;have Ye:=PySem.F.typeCall_set_1 (.ref l);repeat (any_goals (first|assumption|wp_step))
 refine abM (QH (.ref l) (E:=E) (Q₁:=λobj s₁=>obj = .ref s.heap.objs.size/\s₁ = { s with heap:=s.heap.push (iF w) }) ⟨rfl,rfl⟩) λr s₁ hr=>?_;cases r with
 | error e=>exact hr
 | ok fl =>
  cases fl with
  | ret obj =>
   obtain⟨rfl,rfl⟩:=hr;have gS:(s.heap.push (iF w)).get? s.heap.objs.size=some (iF w):=YH _ rfl;have hT:Shared.TypeIs { s with heap:=s.heap.push (iF w) } (.ref s.heap.objs.size) "set" := ⟨_,gS,rfl⟩;have lx:=PySem.F.called_set.init.lookup;have F8:=PySem.F.called_set.init.bind (.ref s.heap.objs.size)
   repeat (any_goals (first|assumption|wp_step))
   refine abM (abw (R:=wants (λr s₂=>r = .none/\∃ h' tk M,s₂ = { s with heap:=h',toks:=tk }/\kg h' s.heap.objs.size M (m6 w)/\qR key items.size M /\
    (∀ b o,b<s.heap.objs.size->s.heap.get? b=some o->h'.get? b=some o)) E) PySem.F.called_set.init.plain PySem.F.entry_set_init (check_set_init_1 hT ?_)) λr₂ s₂ yV=>?_
   .have lt:l<s.heap.objs.size:=let ⟨_,e,_⟩:=hl;YA e;obtain⟨ol,hol,aX,nl,hdl⟩:=id hl;obtain⟨ocls,odict,odata,oslots⟩:=ol;obtain rfl:ocls = .type "list" := aX;obtain rfl:odata = .seq items nl:=hdl;have Rb:(s.heap.push (iF w)).get? l=some { cls:=.type "list",dict:=odict,data:=.seq items nl,slots:=oslots }:=Yy _ hol;have Yf:=PySem.F.sub_list_set;have Yg:=PySem.F.sub_list_frozenset;have a7:(ab3 "list" == ab3 "dict")=false:=by decide
    have ki:(s.heap.push (iF w)).IsList l items:=⟨_,Rb,rfl,nl,rfl⟩
    unfold aas.«set.__init__» noKeywords Builtin.Frozenset.updateFrom;generalize Rc:agv=PI;wp_walk;subst Rc;refine ab4 ki (Yt (wpAny_runValue ?_));have Rf:A.in1.in1.in1.handled=none:=by simp[hh]
    have yW:(s.heap.push (iF w)).objs.size=s.heap.objs.size+1:=aap _ _;have lI:l≠(s.heap.push (iF w)).objs.size:=by rw[yW];exact YS (abt lt)
    have SI:s.heap.objs.size∉[(s.heap.push (iF w)).objs.size,l]:=by rw[yW];simp only[YV,abE,or_false,not_or];exact⟨YS (abC _),ZM lt⟩
    refine QY ((Walks.list Rf _ l lI items).toS) s.heap.objs.size SI (key:=key) (led:=m6 w) hit hn (items.size-0) 0 _ [] (by lia) (Zc _)
     ⟨⟨_,YH _ rfl,rfl,rfl⟩,(ki.push _)⟩ (QX (Yy _ gS))
     ⟨ac6,λ_ hx=>(by cases hx),λj hj=>(by lia),Zc _⟩ λs' M hm kh hM=>?_
    obtain⟨h',g',d',yX,n0⟩:=s';obtain rfl:g'=s.gens:=hm.gens;obtain rfl:d'=s.drawn:=hm.drawn;obtain rfl:n0=s.os:=hm.os;show YT _ _ _ _ _ _;refine Yz (show YT _ _ (ret Value.none) _ _ _ from Yz ⟨rfl,h',yX,M,rfl,kh,hM,λb o hb e=>?_⟩);refine hm.heap b o ?_ (Yy _ (Yy _ e));simp only[YV,abE,or_false,not_or,yW];exact⟨YS hb,YS (abt hb)⟩
   .cases r₂ with
    | error e=>exact yV
    | ok Rg =>
     cases Rg with
     | ret r =>
      obtain⟨rfl,h',tk,M,rfl,kh,hM,fS⟩:=yV
      repeat (any_goals (first|assumption|wp_step))
      exact h _ _ M kh hM fS
     | _=>exact yV.elim
  | _=>exact hr.elim
end
theorem Rh(kis:List (List Int))(ns:List Int):bz kis V.non (ns.map V.int)=(bz kis 0 ns).map V.int:=by unfold bz;rw[ZG,Yw];refine aan λi hi=>?_;have hp:=(mI (n:=ns.length) (jX kis)).1;have:i<ns.length:=ZK.mp (hp.mem_iff.mp hi);simp[agl,this]
theorem F9:∀ M:List (Int × acK),Vals ((M.map (·.1)).map V.int) (M.map λm=>aaX m.1 m.2)
 | []=>.nil
 | m::M=>.cons ⟨m.2,rfl⟩ (F9 M)
def Ga(K:Yu)(t:TE):TE:=λσ H Q=>t σ H λv H1=>∃ (a:YN) (ns:List Int),v=V.ref a/\ah K H1 a (ns.map V.int)/\ns.length<=2 /\
 ∀ zs:List Int,zs.Nodup->(∀ x,x∈zs↔x∈ns)->zs.Pairwise (· <= ·)->∀ l,H1 l=none->Q (.ref l) (upd H1 l (.lst (zs.map V.int)))
section
theorem Ri(hc:X.calm=true)(he:PE X e t)(m8:Gl X "sorted")(yY:X.mg "sorted" = none)(yZ:Zn "sorted" = some (.builtin "sorted"))(qS:Gl X "set")(ly:X.mg "set" = none)(y0:Zn "set" = some (.type "set"))(b5:Y2 [e] X.env=[(false,eval e X.env)]:=by rfl)(lz:Y2 [.Call (.Name "set" p2) [e] [] fZ] X.env=[(false,eval (.Call (.Name "set" p2) [e] [] fZ) X.env)]:=by rfl) :
 PE X (.Call (.Name "sorted" p1) [.Call (.Name "set" p2) [e] [] fZ] [] pos) (Ga X.K t):=by
 intro pins s σ H Q I h;refine ZU (dR I m8 yY yZ ?_ (by decide) (by decide));refine aa5 ?_ (by rw[lz];rfl) rfl;rw[lz];show YT _ _ (spliced ((false,eval (.Call (.Name "set" p2) [e] [] fZ) X.env)::aaC pos [])) _ _ s;refine aav ?_;refine ZU (dR I qS ly y0 ?_ (by decide) (by decide));refine Za ?_ (by rw[b5];rfl) rfl;rw[b5];show YT _ _ (spliced ((false,eval e X.env)::aaC fZ [])) _ _ s;refine aav (aD (he pins s σ H _ I h) λu s1 zq=>?_);obtain⟨x,H1,I1,r1,q1⟩:=zq;obtain⟨a,ns,rfl,hS,hn,q⟩:=q1;cases r1;refine aaE ?_;obtain⟨us,rv,pl,hz⟩:=I1.list hS;have hl:us.length=ns.length:=by have:=rv.length;rw[Yw] at this;lia
 have hint:=intsAre_of rv;refine Ra (items:=us.toArray) (key:=λi=>ns.getD i 0) (I1.ok.hd hc) pl.isList (by simp;lia) (λi v hv=>?_) λh2 tk M Rj hM hk=>?_
 .exact IntsAre.int_at hint i v (by simpa using hv)
 refine aaE ?_;obtain⟨o,ep,tb,L,g1,g2,g3,yX,g4,g5,g7⟩:=Rj;have hx:oW X.w s1.heap.objs.size o ep tb L:=⟨g2,g3,yX,g4,g5⟩
 have hsz:us.toArray.size=us.length:=by simp
 rw[hsz] at hM;obtain⟨m1,m2,m3,m4⟩:=hM;have Rk:L.length=M.length:=by have:=congrArg List.length g7;simpa using this
 have hp:((iG X.w s1.heap.objs.size ep (L.map (·.2)).toArray).toList).Perm (M.map kf):=by have:=yS X.w s1.heap.objs.size ep (L.map (·.2)).toArray;rw[acL,g7] at this;rw[g7];exact this
 obtain⟨M',e1,e2⟩:=F1 hp;have Yh:M'.length=L.length:=e2.length_eq.trans Rk.symm;have fH:(M'.map (·.1)).Nodup:=((e2.map (·.1)).nodup_iff).mpr m1;have Rl:=F9 M';refine QG (s:={ s1 with heap:=h2,toks:=tk }) (kis:=M'.map λm=>[m.1]) (vs:=M'.map λm=>aaX m.1 m.2) (by simp) (by simp;lia) (λi hi=>?_) (λA' Q' E' hA hq=>?_) λl h' uu k1 k2 k3=>?_
 .have cu:i<M'.length:=by simpa using hi
  exact⟨M'[i].1,M'[i].2,by simp[cu],by simp[agl,cu]⟩
 .refine EY (s:={ s1 with heap:=h2,toks:=tk }) (QS hx) (hA.trans (I1.ok.hd hc)) g1 (YE (show L.length<=64 by lia) (by decide)) λh3 xG acc b1 b2 b3=>?_;have Rm:acc.toList=M'.map λm=>aaX m.1 m.2:=by
   refine aa2 λi=>?_;rw[acg];by_cases hi:i<L.length
   .have cu:i<acc.size:=by rw[b3.1];exact hi
    have Gb:i<M'.length:=by lia
    have:=b3.2 i acc[i] (Zj cu);dsimp only at this;have e3:(iG X.w s1.heap.objs.size ep (L.map (·.2)).toArray)[i]?=some (kf M'[i]):=by rw[<- acg,e1];simp[Gb]
    rw[e3] at this;rw[Zj cu,<- this];simp[Gb]
   .rw[abc (by rw[b3.1];lia)];rw[eq_comm,List.getElem?_eq_none_iff];simp only[Yw];lia
  rw[Rm];exact hq h3 xG b1 b2
 .refine E3 (s:=s1) (ks:=(M'.map (·.1)).map V.int) (kis:=M'.map λm=>[m.1]) (us:=M'.map λm=>aaX m.1 m.2) I1 Rl ?_ ?_ (λb u e=>k2 b u (hk b u (YA e) e)) k3 λl' pY=>?_
  .simp only[Yw];exact YE (show _<=64 by lia) (by decide)
  .exact YE (abL (YA g1)) k1
  .rw[Rh];refine q _ ((mK.nodup_iff).mpr fH) (λx=>?_) ?_ l' pY
   .rw[mK.mem_iff,(e2.map (·.1)).mem_iff];constructor
    .intro fS;obtain⟨m,hm,rfl⟩:=YO.mp fS;obtain⟨j,hj,ej⟩:=m2 m hm;have:j<ns.length:=by lia
     rw[ej];simp[agl,this]
    .intro fS;obtain⟨j,hj,rfl⟩:=aeM fS;have:=m3 j (by lia);simpa [agl,hj] using this
   .have:=Ed (kis:=M'.map λm=>[m.1]) (d:=(0:Int)) (as:=M'.map (·.1)) (f:=λx=>[x]) (by rw[ZG];rfl);refine this.imp λ{a b} dU=>?_;rw[HT.kO] at dU;by_cases e:b=a
    .lia
    .rw[if_neg e] at dU;have:=of_decide_eq_false dU;lia
end
theorem Rn{P:Zy}{w:aaa}{K:Yu}{tg:ach}(it:YN)(lo:Int)(n:Nat):Turn P w K tg (eU lo n) [it] it (λi h=>IsLongIter h it (lo+(i:Nat) * 1) ((n:Int)-(i:Nat)) 1) where
 mem:=by simp
 obj:=λi h st b hb=>by
  have e:b=it:=by simpa using hb
  subst e;exact⟨_,st,λv z=>by
   have z':adw _=adg v:=z;cases z'⟩
 keep:=λi h h' st k=>k it (by simp) _ st
 item:=by intro X hP hw hK hc i pins s σ H E I hf st hg;subst hP hw hK;obtain⟨f0,f1,f2,f3,f4,f5⟩:=hf it (by simp);refine (Walks.longrange (prog:=X.prog) (w:=X.w) (I.ok.hd hc) it lo 1 n).item i s _ _ hg st λv h' tk hv b0 kk=>?_;obtain⟨t,rfl⟩:=hv;have I1:Inv X pins σ H { s with heap:=h',toks:=tk }:=I.turned (λb o hb e=>kk b o (by simpa using hb) e) f0 f1 f3 f4 f5;refine⟨_,rfl,mn (s:={ s with heap:=h',toks:=tk }) (n := "longrange_iterator") b0 rfl rfl (by decide) ⟨.int (lo+i),H,I1,⟨t,?_⟩,⟨rfl,rfl⟩,b0,λb hb=>(hf b hb).1⟩⟩;rw[ag9]
 done:=by
  intro X hP hw hK hc i pins s σ H E I hf st hg;subst hP hw hK;obtain⟨f0,f1,f2,f3,f4,f5⟩:=hf it (by simp);exact wpAny_pyNext_long_end (I.ok.hd hc) st (by have:n<=i:=hg;lia) λh' eb=>⟨rfl,I.turned (t':=s.toks) (λb o hb e=>eb b o hb e) f0 f1 f3 f4 f5⟩
 self:=λ_ _ _ _ _ st h=>wpAny_pyIter_longiter st h
section
theorem Ro{pins:List (YN × Obj)}{σ:L2.St}{H:Hp}{s:YK}{R:It->Hp->Prop}{E:YB->YK->Prop}{lo hi:Int}{t u v:Tok}{tk:Nat}(I:Inv X pins σ H s)
 (q:R (eU lo (hi-lo).toNat) H):YT (model X.prog X.w) X.A (agv (.ref s.heap.objs.size)) (wB X pins σ tg R) E { s with heap:=s.heap.push { cls:=.type "range",data:=.fields #[.int lo t,.int hi u,.int 1 v] },toks:=tk }:=by
 have e1:lo+((0:Nat):Int) * 1=lo:=by simp
 have e2:(((hi-lo).toNat:Nat):Int)-((0:Nat):Int)=Zw lo hi 1:=by rw[rangeSize_one];split<;>lia
 have I1:Inv X pins σ H { s with heap:=s.heap.push { cls:=.type "range",data:=.fields #[.int lo t,.int hi u,.int 1 v] },toks:=tk }:=I.kept λb o e=>Yy _ e;have fp:∀ b∈[(s.heap.push { cls:=.type "range",data:=.fields #[.int lo t,.int hi u,.int 1 v] }).objs.size],cV X pins H b:=λb hb=>by obtain rfl:=YZ.mp hb;exact I1.fq (YD _) (I1.ao.fresh (YD _))
 cases hs:Builtin.Range.small lo hi 1 with
 | true =>
  refine acR (IsRange.new ..) hs ⟨_,[_],_,_,H,rfl,I1.kept (t':=tk) λb o e=>Yy _ e,B6 _ lo (hi-lo).toNat,?_,fp,q⟩;show adv _ _ (lo+((0:Nat):Int) * 1) ((((hi-lo).toNat:Nat):Int)-((0:Nat):Int)) 1;rw[e1,e2];exact YH _ rfl
 | false =>
  refine wpAny_pyIter_longrange (IsRange.new ..) hs ⟨_,[_],_,_,H,rfl,I1.kept (t':=tk) λb o e=>Yy _ e,Rn _ lo (hi-lo).toNat,?_,fp,q⟩;show IsLongIter _ _ (lo+((0:Nat):Int) * 1) ((((hi-lo).toNat:Nat):Int)-((0:Nat):Int)) 1;rw[e1,e2];exact YH _ rfl
def y7(ta:TA):TI:=λσ H R=>ta σ H λvs H1=>∃ i j:Int,vs=[.int i,.int j]/\R (eU i (j-i).toNat) H1
theorem Rp:ic (y7 ta) g tb D σ H=ta σ H (λvs H1=>∃ i j:Int,vs=[.int i,.int j]/\FJ (eU i (j-i).toNat) g tb D σ H1):=rfl
theorem Ge(hg:Gl X "range")(hm:X.mg "range" = none)(ha:PA X [a,b] ta)(hs:Y2 [a,b] X.env=[(false,eval a X.env),(false,eval b X.env)]:=by rfl)(b5:Y2 [b] X.env=[(false,eval b X.env)]:=by rfl) :
 PI X tg (.Call (.Name "range" p) [a,b] [] pos) (y7 ta):=by
 intro pins s σ H R I h;refine agW (dR I hg hm afb (Za (aD (ha pos pins s σ H _ I h) λus s1 ⟨vs,H1,I1,r1,q1⟩=>?_) (by rw[hs,b5]) (by rw[b5];rfl)));obtain⟨i,j,e,q⟩:=q1;subst e;cases r1 with
 | cons r rr =>
  cases rr with
  | cons r' rr =>
   cases rr;obtain⟨t,rfl⟩:=r;obtain⟨t',rfl⟩:=r';exact call_range_2 (Ro I1 q)
theorem Rq:t5 X "str.rjust" (λx xs H Q=>∃ z i,x = .str z/\xs=[.int i]/\PadOk i=true/\Q (.str (Txt.rjust z i)) H):=by
 intro pins s σ H x xs v us Q I rx rv h;obtain⟨z,i,rfl,rfl,hp,q⟩:=h;obtain⟨u,rfl,ru⟩:=vals1 rv;obtain⟨t,rfl⟩:=rx;obtain⟨k,rfl⟩:=ru;exact PySem.W.KXw.rjust rfl hp λt' k=>⟨.str _,H,I.tok _,⟨_,rfl⟩,q⟩
theorem Gf:∀ {ss:List Str} {ai:List YB},Vals (ss.map V.str) ai->CarriedAll ai (ss.map PyData.str)
 | [],_,r=>by cases r;exact .nil
 | s::ss,_,r=>by
  cases r with
  | cons r1 r2 =>
   obtain⟨t,rfl⟩:=r1;exact .cons (.str _ _) (Gf r2)
theorem Rr:t5 X "str.join" (λx xs H Q=>∃ a ss,x = .str (YG "")/\xs=[.ref a]/\ah X.K H a (ss.map V.str)/\(∀ s∈ss,s.length=1)/\ss.length<=1000/\Q (.str (Txt.join (YG "") ss)) H):=by
 intro pins s σ H x xs v us Q I rx rv h;obtain⟨a,ss,rfl,rfl,hS,h1,hn,q⟩:=h;obtain⟨u,rfl,ru⟩:=vals1 rv;obtain⟨t,rfl⟩:=rx;cases ru;obtain⟨ai,r,p,_⟩:=I.list hS;refine PySem.W.KT.join_1 (l:=ss) (g:=λx=>x) p.isList ?_ h1 (by lia) λt' k _=>⟨.str _,H,I.tok _,⟨_,by rw[afD]⟩,?_⟩
 .exact Gf r
 .exact q
end
noncomputable def jr(u:YB):Bool:=match u with|.none=>true|_=>false
noncomputable def kj(v:V):Bool:=decide (v = .non)
def oY(H:Hp)(xs:List V):Prop:=∀ v∈xs,v = .non ∨ ∃ a ys,v = .ref a/\H a=some (.tup ys)
section
theorem Gg{x:V}{u:YB}{H:Hp}(r:RelV x u)(h:x = .non ∨ ∃ a ys,x = .ref a/\H a=some (.tup ys)):jr u=kj x:=by
 rcases h with rfl|⟨a,ys,rfl,_⟩
 .cases r;rfl
 .cases r;rfl
theorem Gh:∀ {xs:List V} {us:List YB},Vals xs us->oY H xs->us.any jr=xs.any kj
 | _,_,.nil,_=>rfl
 | x::xs,u::us,.cons r t,f=>by rw[ZV,ZV,Gg r (f x (.head _)),Gh t λv hv=>f v (.tail _ hv)]
theorem y9:∀ {xs:List V} {us:List YB},Vals xs us->oY H xs->∀ (m:Nat) (h:m<us.length),jr us[m]=kj (xs.getD m .non)
 | _,_,.nil,_,m,h=>absurd h (aat _)
 | x::xs,u::us,.cons r t,f,0,h=>Gg r (f x (.head _))
 | x::xs,u::us,.cons r t,f,m+1,h=>y9 t (λv hv=>f v (.tail _ hv)) m (adX h)
theorem za(I:Inv X pins σ H s)(hu:A.units<adi):∀ {xs:List V} {us:List YB},Vals xs us->oY H xs->∀ u∈us,SeqAt.EqAt A s u .none (jr u)
 | _,_,.nil,_=>λu hu=>by cases hu
 | x::xs,u::us,.cons r t,f=>λu' zb=>by
  rcases YV.mp zb with rfl|zb
  .rcases f x (.head _) with rfl|⟨a,ys,rfl,ha⟩
   .cases r;exact SeqAt.EqAt.same _
   .cases r;obtain⟨_,ai,r',o',k1,k2,n,k3⟩:=(show bw X.prog X.w H s.heap a (.tup ys) from I.ao a _ ha)
    exact SeqAt.EqAt.tuple_none ⟨o',k1,k2,n,k3⟩ hu
  .exact za I hu t (λv hv=>f v (.tail _ hv)) u' zb
def Rt(K:Yu):R2:=λx y H Q=>∃ a xs,x = .non/\y = .ref a/\ah K H a xs/\oY H xs/\Q (.bl (xs.any kj)) H
theorem Gi(hu:X.A.units+1<adi):ba X (Z5 .In) (Rt X.K):=by intro pins s σ H x y v u Q I rx ry h;obtain⟨a,xs,rfl,rfl,hq,hn,q⟩:=h;cases rx;cases ry;obtain⟨ai,r,pl,hz⟩:=I.list hq;refine SeqAt.in_listAt jr pl.isList (λw hw=>za I (A:=X.A.in1) (aaS (knd:=ee X.prog X.w) hu) r hn w (by simpa using hw)) ⟨.bl _,H,I,rfl,?_⟩;rw[show ai.toArray.any jr=ai.any jr by simp,Gh r hn];exact q
def Ru(K:Yu)(x:V)(ys:List V)(H:Hp)(Q:VK):Prop:=∃ a xs j,x = .ref a/\ys=[.non]/\ah K H a xs/\oY H xs/\j<xs.length/\xs.length<=1000/\kj (xs.getD j .non)=true/\(∀ m,m<j->kj (xs.getD m .non)=false)/\Q (.int (j:Nat)) H
theorem Gj(hu:X.A.units+1<adi):t5 X "list.index" (Ru X.K):=by
 intro pins s σ H x xs v us Q I rx r h;obtain⟨a,xs,j,rfl,rfl,hq,hn,hj,hl,h1,h2,q⟩:=h;cases rx;obtain⟨u,rfl,ru⟩:=vals1 r;cases ru;obtain⟨ai,r,pl,hz⟩:=I.list hq;obtain⟨⟨cls,dd,data,sl⟩,ho,hc,n,hd⟩:=id pl.isList;simp only at hc hd;subst hc hd;have hlen:ai.length=xs.length:=(Vals.length r).symm;refine agx abV ⟨_,ho,rfl⟩ PySem.F.entry_list_index (PySem.F.args_list_index_2 _ _)
  (SeqAt.list_indexAt a ai.toArray n dd sl .none jr j (by simpa [hlen] using hj) (by lia) ?_ ?_) ⟨ho,λy hy=>za I (A:=X.A.in1) (aaS (knd:=ee X.prog X.w) hu) r hn y (by simpa using hy),?_⟩
 .show jr ai[j]=true;rw[y9 r hn];exact h1
 .intro m hm aU;show jr ai[m]=false;rw[y9 r hn];exact h2 m aU
 .exact⟨.int j,H,I.tok _,⟨_,rfl⟩,q⟩
end
noncomputable def fI(p:P2):W2:=some (some p.1,some p.2)
theorem Gk:∀ (ss:List S2) (a b:Int),∃ a' b',aZ (some a,some b) ss=(some a',some b')
 | [],a,b=>⟨a,b,rfl⟩
 | s::ss,a,b=>by
  rw[uT];have h1:∃ x,di (some a) s.1=some x:=by rcases s.1 with _|c<;>exact⟨_,rfl⟩
  have h2:∃ x,dj (some b) s.2=some x:=by rcases s.2 with _|c<;>exact⟨_,rfl⟩
  obtain⟨x,hx⟩:=h1;obtain⟨y,hy⟩:=h2;rw[hx,hy];exact Gk ss x y
theorem Rv(h:dH (none,none) ((some a,some b)::ss)=some s):∃ p:P2,some s=fI p/\p.1<=p.2:=by
 unfold dH at h;rw[uT] at h;obtain⟨x,y,e⟩:=Gk ss a b;rw[show (di (none,none).1 (some a,some b).1,dj (none,none).2 (some a,some b).2)=((some a,some b):S2) from rfl,e] at h;split at h
 .cases h
 .rename_i hc;cases h;exact⟨(x,y),rfl,by simpa [aO] using hc⟩
theorem Gm(hf:∀ k s,f k=some s->∃ p:P2,some s=fI p/\p.1<=p.2):∀ (ks:List Nat),(∀ k∈ks,f k≠none)->∃ pp:List P2,ks.map f=pp.map fI/\cS pp
 | [],_=>⟨[],rfl,λ_ h=>nomatch h⟩
 | k::ks,h=>by
  obtain⟨pp,e,ho⟩:=Gm hf ks λj hj=>h j (.tail _ hj);cases hk:f k with
  | none=>exact absurd hk (h k (.head _))
  | some s =>
   obtain⟨p,e1,e2⟩:=hf k s hk;refine⟨p::pp,by rw[YW,YW,e,hk,e1],λq hq=>?_⟩;rcases YV.mp hq with rfl|hq
   .exact e2
   .exact ho q hq
theorem all_some:∀ (ws:List W2),(∀ w∈ws,w≠none)->∃ gs:List S2,ws=gs.map some
 | [],_=>⟨[],rfl⟩
 | w::ws,h=>by
  obtain⟨gs,e⟩:=all_some ws λj hj=>h j (.tail _ hj);cases w with
  | none=>exact absurd rfl (h none (.head _))
  | some s=>exact⟨s::gs,by rw[e];rfl⟩
theorem zc:∀ {ys:List V} {ws:List W2},ay (fF H) ys ws->oY H ys/\(ys.any kj=ws.any abu)/\∀ m,kj (ys.getD m .non)=(ws.getD m none).isNone
 | [],[],_=>⟨(λ_ h=>nomatch h),rfl,λ_=>rfl⟩
 | y::ys,w::ws,h=>by
  obtain⟨h1,h2⟩:=h;obtain⟨a,b,c⟩:=zc h2;have key:(y = .non ∨ ∃ a ys,y = .ref a/\H a=some (.tup ys))/\kj y=w.isNone:=by
   cases w with
   | none =>
    obtain rfl:y = .non:=h1;exact⟨.inl rfl,rfl⟩
   | some s =>
    obtain⟨p,rfl,hp⟩:=h1;exact⟨.inr ⟨p,_,rfl,hp⟩,rfl⟩
  refine⟨λv hv=>?_,by rw[ZV,ZV,b,key.2],λm=>?_⟩
  .rcases YV.mp hv with rfl|hv
   .exact key.1
   .exact a v hv
  .cases m with
   | zero=>exact key.2
   | succ m=>exact c m
 | [],_::_,h=>h.elim
 | _::_,[],h=>h.elim
theorem zd:∀ {xs:List α},xs.any p=true->∃ j,j<xs.length/\p (xs.getD j d)=true/\∀ m,m<j->p (xs.getD m d)=false
 | [],h=>by cases h
 | x::xs,h=>by
  cases hx:p x with
  | true=>exact⟨0,Nat.zero_lt_succ _,hx,λm hm=>absurd hm (aat _)⟩
  | false =>
   rw[ZV,hx,agK] at h;obtain⟨j,h1,h2,h3⟩:=zd (d:=d) h;refine⟨j+1,Nat.succ_lt_succ h1,h2,λm hm=>?_⟩;cases m with
   | zero=>exact hx
   | succ m=>exact h3 m (adX hm)
theorem Gn{ws:List W2}(h:ws.any abu=false):∀ w∈ws,w≠none:=λw hw e=>by have:=afc.mp h w hw;rw[e] at this;exact this rfl
theorem Gq:∀ {ys:List V} {pp:List P2},ay (fF H) ys (pp.map fI)->eI H ys pp
 | [],[],_=>trivial
 | _::_,_::_,h=>⟨h.1,Gq h.2⟩
 | [],_::_,h=>h.elim
 | _::_,[],h=>h.elim
theorem j5.reach(T:j5 ps ms tp):∀ (n t:Nat) {v k:Int},t+n<=ps.length ->
 (tp t=some (v,k)->∃ v' k',tp (t+n)=some (v',k')/\v'<=v+(pre (·.2) ps (t+n)-pre (·.2) ps t)) /\
 (tp (t+n)=some (v,k)->∃ v' k',tp t=some (v',k')/\v'<=v+(pre (·.1) ps t-pre (·.1) ps (t+n)))
 | 0,t,v,k,_=>⟨λh=>⟨v,k,h,by simp⟩,λh=>⟨v,k,h,by simp⟩⟩
 | n+1,t,v,k,hn=>by
  refine⟨λh=>?_,λh=>?_⟩
  .obtain⟨v1,k1,e1,h1⟩:=(T.reach n t (by lia)).1 h;obtain⟨v2,k2,e2,h2⟩:=T.fwd (t+n) v1 k1 (by lia) e1;refine⟨v2,k2,e2,?_⟩;rw[show t+(n+1)=(t+n)+1 by lia,fT _ ps (by lia)];lia
  .obtain⟨v1,k1,e1,h1⟩:=T.bwd (t+n) v k (by lia) h;obtain⟨v2,k2,e2,h2⟩:=(T.reach n t (by lia)).2 e1;refine⟨v2,k2,e2,?_⟩;rw[show t+(n+1)=(t+n)+1 by lia,fT _ ps (by lia)];lia
theorem Rw(T:j5 ps ms tp)(hm:∀ m∈ms,m.1<=ps.length)(hn:∀ m∈ns,m.1<=ps.length)(h0:qJ ns tp)(ha:a∈ms)(hb:b∈ns):¬ clash ps a b:=by
 rintro ⟨h,l,e1,e2,aU⟩;obtain⟨v,k,e3,h3⟩:=T.top a ha h e1;have qo:=hm a ha;have bO:=hn b hb;have key:∃ v' k',tp b.1=some (v',k')/\v'<=v+bA ps a.1 b.1:=by
  unfold bA;by_cases hle:a.1<=b.1
  .rw[if_pos hle];obtain⟨n,iU⟩:∃ n,b.1=a.1+n:=⟨b.1-a.1,by lia⟩
   rw[iU];exact (T.reach n a.1 (by lia)).1 e3
  .rw[if_neg hle];obtain⟨n,iU⟩:∃ n,a.1=b.1+n:=⟨a.1-b.1,by lia⟩
   rw[iU] at e3 ⊢;exact (T.reach n b.1 (by lia)).2 e3
 obtain⟨v',k',e4,h4⟩:=key;have:=h0 b hb l v' k' e2 e4;lia
theorem ze:m∈lr tb i ↔ ∃ r∈tb,r.1.1=i/\m=(r.1.2.toNat,r.2):=by
 unfold lr;simp only[YO,Y8,decide_eq_true_eq];constructor
 .rintro ⟨r,⟨h1,h2⟩,rfl⟩;exact⟨r,qO.mem_iff.mp h1,h2,rfl⟩
 .rintro ⟨r,h1,h2,rfl⟩;exact⟨r,⟨qO.mem_iff.mpr h1,h2⟩,rfl⟩
noncomputable def qT(e:Nat)(tb:Tb):List (Int × List Mk):=(Y1 e).map λ(i:Nat)=>((i:Int),lr tb (i:Int))
theorem Rx(hp:cS ps)(ht:t<ps.length):bA ps i (t+1)<=bA ps i t+(aB ps t).2:=by
 have h:=hp _ (mH ht);have e1:=fT (·.1) ps ht;have e2:=fT (·.2) ps ht;unfold bA;split<;>split<;>first|lia|(have z:i=t+1:=(by lia);subst z;lia)
theorem Ry(hp:cS ps)(ht:t<ps.length):bA ps i t<=bA ps i (t+1)-(aB ps t).1:=by
 have h:=hp _ (mH ht);have e1:=fT (·.1) ps ht;have e2:=fT (·.2) ps ht;unfold bA;split<;>split<;>first|lia|(have z:i=t+1:=(by lia);subst z;lia)
theorem Rz(ps:List P2)(i:Nat):bA ps i i<=0:=by unfold bA;split<;>lia
theorem Gr(hp:cS ps)(ms:List Mk):∀ n,n<=ms.length->∃ tp,j5 ps (ms.take n) tp
 | 0,_=>⟨λ_=>none,⟨λ_ _ _ _ e=>(nomatch e),λ_ h=>(nomatch h),λ_ _ _ _ e=>(nomatch e),λ_ _ _ _ e=>(nomatch e)⟩⟩
 | n+1,hn=>by
  obtain⟨tp,T⟩:=Gr hp ms n (by lia);have hm:ms[n]?=some ms[n]:=Yx (by lia);generalize ms[n]=m at hm;have et:ms.take (n+1)=ms.take n++[m]:=by rw[aah,hm];rfl
  have tl:(ms.take n).length=n:=by rw[ack];lia
  cases hi:m.2.2 with
  | none =>
   refine⟨tp,⟨λt v k ht e=>?_,λa ha h e=>?_,T.fwd,T.bwd⟩⟩
   .obtain⟨i,a,h,h1,h2,h3⟩:=T.val t v k ht e;have:=(YC.mp h2).1;exact⟨i,a,h,h1,by rw[et,Zx this];exact h2,h3⟩
   .rw[et] at ha;rcases YX.mp ha with z|z
    .exact T.top a z h e
    .rw[YZ.mp z,hi] at e;cases e
  | some h0 =>
   have one:∀ t v k,(match tp t with|some (v,k)=>if h0+bA ps m.1 t<v then some (h0+bA ps m.1 t,(n:Int)) else some (v,k)|none=>some (h0+bA ps m.1 t,(n:Int)))=some (v,k) ->
    v<=h0+bA ps m.1 t/\(∀ v' k',tp t=some (v',k')->v<=v')/\((v=h0+bA ps m.1 t/\k=(n:Int))∨tp t=some (v,k)):=by
    intro t v k e;cases h1:tp t with
    | none =>
     rw[h1] at e;cases e;exact⟨ZJ _,λ_ _ z=>(nomatch z),.inl ⟨rfl,rfl⟩⟩
    | some q =>
     obtain⟨v1,k1⟩:=q;rw[h1] at e;dsimp only at e;split at e
     .cases e;refine⟨ZJ _,λv' k' z=>?_,.inl ⟨rfl,rfl⟩⟩;cases z;lia
     .cases e;refine⟨by lia,λv' k' z=>?_,.inr rfl⟩;cases z;exact ZJ _
   have ex:∀ t,∃ v k,(match tp t with|some (v,k)=>if h0+bA ps m.1 t<v then some (h0+bA ps m.1 t,(n:Int)) else some (v,k)|none=>some (h0+bA ps m.1 t,(n:Int)))=some (v,k):=λt=>by
    cases h1:tp t with
    | none=>exact⟨_,_,rfl⟩
    | some q =>
     obtain⟨v1,k1⟩:=q;dsimp only;split<;>exact⟨_,_,rfl⟩
   refine⟨λt=>match tp t with|some (v,k)=>if h0+bA ps m.1 t<v then some (h0+bA ps m.1 t,(n:Int)) else some (v,k)|none=>some (h0+bA ps m.1 t,(n:Int)),⟨λt v k ht e=>?_,λa ha h e=>?_,λt v k ht e=>?_,λt v k ht e=>?_⟩⟩
   .obtain⟨_,_,⟨rfl,rfl⟩|e1⟩:=one t v k e
    .exact⟨n,m,h0,rfl,by rw[et,ZD (by lia),tl,acW];rfl,hi,ZJ _⟩
    .obtain⟨i,a,h,h1,h2,h3⟩:=T.val t v k ht e1;have:=(YC.mp h2).1;exact⟨i,a,h,h1,by rw[et,Zx this];exact h2,h3⟩
   .obtain⟨v,k,e1⟩:=ex a.1;obtain⟨o1,o2,_⟩:=one _ _ _ e1;refine⟨v,k,e1,?_⟩;rw[et] at ha;rcases YX.mp ha with z|z
    .obtain⟨v',k',e2,h2⟩:=T.top a z h e;have:=o2 v' k' e2;lia
    .rw[YZ.mp z] at e o1;rw[hi] at e;cases e;have:=Rz ps m.1;lia
   .obtain⟨v',k',e1⟩:=ex (t+1);obtain⟨o1,o2,_⟩:=one _ _ _ e1;refine⟨v',k',e1,?_⟩;obtain⟨_,_,⟨rfl,rfl⟩|e3⟩:=one t v k e
    .have:=Rx hp (i:=m.1) ht;lia
    .obtain⟨v2,k2,e4,h4⟩:=T.fwd t v k ht e3;have:=o2 _ _ e4;lia
   .obtain⟨v',k',e1⟩:=ex t;obtain⟨o1,o2,_⟩:=one _ _ _ e1;refine⟨v',k',e1,?_⟩;obtain⟨_,_,⟨rfl,rfl⟩|e3⟩:=one (t+1) v k e
    .have:=Ry hp (i:=m.1) ht;lia
    .obtain⟨v2,k2,e4,h4⟩:=T.bwd t v k ht e3;have:=o2 _ _ e4;lia
theorem RA(hp:cS ps)(hm:∀ m∈ms,m.1<=ps.length)(hc:∀ a∈ms,∀ b∈ms,¬ clash ps a b):∃ c,d8 ps c/\meets ms c:=by
 obtain⟨tp,T⟩:=Gr hp ms ms.length (YD _);rw[aaz] at T;refine Pz hp hm T λm cv l v k e1 e2=>?_;rcases Int.lt_or_le v l with h|h
 .obtain⟨i,a,_,h2,h3⟩:=T.clash (hm m cv) e2 e1 h;exact absurd h3 (hc a (Y6 h2) m cv)
 .exact h
abbrev Cl:=(En × Nat) × (En × Nat)
noncomputable def gE(e:Int)(c:Cl):Bool:=decide (c.1.1=some e) || decide (c.2.1=some e)
noncomputable def wo(e:Int)(cs:List Cl):List Cl:=cs.filter λc=>!gE e c
def gu:Nat->List Cl->Prop
 | 0,_=>True
 | _+1,[]=>False
 | n+1,c::cs=>∀ e,gE e c=true->gu n (wo e (c::cs))
def qU(es:List Int)(cs:List Cl):Prop:=∀ c∈cs,∃ e∈es,gE e c=true
theorem RB(h:qU es (wo e cs)):qU (e::es) cs:=λc hc=>by
 cases hb:gE e c with
 | true=>exact⟨e,.head _,hb⟩
 | false =>
  obtain⟨x,hx,h1⟩:=h c (Y8.mpr ⟨hc,by rw[hb];rfl⟩);exact⟨x,.tail _ hx,h1⟩
inductive Pp where
 | nil:Pp
 | full:Pp
 | cls:Cl->Pp->Pp->Pp
noncomputable def lA:Nat->List Cl->Pp
 | 0,_=>.full
 | _+1,[]=>.full
 | n+1,c::cs=>.cls c (match c.1.1 with|none=>.nil|some e=>lA n (wo e (c::cs))) (if c.1.1=c.2.1 then .nil else match c.2.1 with|none=>.nil|some e=>lA n (wo e (c::cs)))
def iH(gs:List S2)(tb:Tb)(as:List Int)(s:En × Nat)(m:Mk):Prop:=m.1=s.2/\match s.1 with|none=>gs[s.2]?=some m.2|some e=>e∉as/\((e,(s.2:Int)),m.2)∈tb
def Val(ps:List P2)(gs:List S2)(tb:Tb)(mo:Int):Pp->List Int->Prop
 | .nil,_=>False
 | .full,as=>mo<as.length
 | .cls c a b,as=>(∃ m n,iH gs tb as c.1 m/\iH gs tb as c.2 n/\clash ps m n)/\(match c.1.1 with|none=>a = .nil|some e=>Val ps gs tb mo a (as++[e]))/\(match c.2.1 with|none=>b = .nil|some e=>if c.1.1=some e then b = .nil else Val ps gs tb mo b (as++[e]))
theorem m9:gE e c=true↔c.1.1=some e∨c.2.1=some e:=by unfold gE;rw[abT,decide_eq_true_eq,decide_eq_true_eq]
theorem Gs:∀ (n:Nat) (cs:List Cl) (as:List Int),gu n cs->(as.length:Int)+n=mo+1->(∀ c∈cs,∃ m n,iH gs tb as c.1 m/\iH gs tb as c.2 n/\clash ps m n)->Val ps gs tb mo (lA n cs) as
 | 0,_,as,_,h,_=>by show mo<as.length;lia
 | n+1,[],_,h,_,_=>h.elim
 | n+1,c::cs,as,h,hl,hs=>by
  have sub:∀ e,gE e c=true->Val ps gs tb mo (lA n (wo e (c::cs))) (as++[e]):=λe he=>by
   refine Gs n _ _ (h e he) (by rw[YJ,YR];lia) λc' jE=>?_;obtain⟨h1,h2⟩:=Y8.mp jE;obtain⟨m,k,a1,a2,a3⟩:=hs c' h1;have h3:gE e c'=false:=by cases hh:gE e c' with|false=>rfl|true=>rw[hh] at h2;cases h2
   have h4:∀ x,c'.1.1=some x∨c'.2.1=some x->x≠e:=λx hx z=>by subst z;rw[m9.mpr hx] at h3;cases h3
   refine⟨m,k,⟨a1.1,?_⟩,⟨a2.1,?_⟩,a3⟩
   .have:=a1.2;cases hx:c'.1.1 with
    | none=>rw[hx] at this;exact this
    | some x =>
     rw[hx] at this;refine⟨λz=>?_,this.2⟩;rcases YX.mp z with z|z
     .exact this.1 z
     .exact h4 x (.inl hx) (YZ.mp z)
   .have:=a2.2;cases hx:c'.2.1 with
    | none=>rw[hx] at this;exact this
    | some x =>
     rw[hx] at this;refine⟨λz=>?_,this.2⟩;rcases YX.mp z with z|z
     .exact this.1 z
     .exact h4 x (.inr hx) (YZ.mp z)
  refine⟨hs c (.head _),?_,?_⟩
  .cases hx:c.1.1 with
   | none=>rfl
   | some e=>exact sub e (m9.mpr (.inl hx))
  .cases hx:c.2.1 with
   | none=>dsimp only;split<;>rfl
   | some e =>
    dsimp only;by_cases he:c.1.1=some e
    .rw[if_pos he,if_pos he]
    .rw[if_neg he,if_neg he];exact sub e (m9.mpr (.inr hx))
abbrev Gp:=En × List Mk
def vd(ps:List P2)(gs:List Gp)(cs:List Cl):Prop:=∀ c∈cs,∃ g∈gs,∃ h∈gs,∃ m∈g.2,∃ n∈h.2,c=((g.1,m.1),(h.1,n.1))/\clash ps m n
def jt(ps:List P2)(g h:Gp)(cs:List Cl):Prop:=∀ m∈g.2,∀ n∈h.2,clash ps m n->∃ c∈cs,c.1.1=g.1/\c.2.1=h.1
theorem jt.more(x:jt ps g h cs):jt ps g h (cs++ds):=λm hm n hn hc=>let ⟨c,h1,h2⟩:=x m hm n hn hc;⟨c,Zl _ h1,h2⟩
noncomputable def ju(gs:List Mk)(e:Nat)(tb:Tb):List Gp:=(none,gs)::(qT e tb).map λr=>(some r.1,r.2)
theorem qV:m∈b8 tb es ↔ ∃ r∈tb,r.1.1∉es/\m=(r.1.2.toNat,r.2):=by
 unfold b8;constructor
 .intro h;obtain⟨r,hr,rfl⟩:=YO.mp h;obtain⟨h1,h2⟩:=Y8.mp hr;exact⟨r,qH h1,by simpa using h2,rfl⟩
 .rintro ⟨r,hr,h1,rfl⟩;exact YO.mpr ⟨r,Y8.mpr ⟨mK.mem_iff.mpr hr,by simpa using h1⟩,rfl⟩
theorem Gu(ao:bL e t tb)(h:m∈gm++b8 tb es):∃ g∈ju gm e.toNat tb,m∈g.2/\∀ x,g.1=some x->x∉es:=by
 rcases YX.mp h with z|z
 .exact⟨_,.head _,z,λx hx=>nomatch hx⟩
 .obtain⟨r,hr,h1,rfl⟩:=qV.mp z;have ho:=ao.2 r hr;unfold lh at ho;refine⟨(some r.1.1,lr tb r.1.1),.tail _ (YO.mpr ⟨(r.1.1,lr tb r.1.1),YO.mpr ⟨r.1.1.toNat,ZK.mpr (by lia),by rw[aao ho.1.1]⟩,rfl⟩),ze.mpr ⟨r,hr,rfl,rfl⟩,λx hx=>?_⟩;cases hx;exact h1
theorem RC(ao:bL e t tb)(hp:cS ps)(hm:∀ m∈gm++b8 tb es,m.1<=ps.length)(hc:qU es cs)(hx:∀ g∈ju gm e.toNat tb,∀ h∈ju gm e.toNat tb,jt ps g h cs):∃ c,d8 ps c/\meets (gm++b8 tb es) c :=
 RA hp hm λa ha b hb dU=>by
  obtain⟨g,h1,h2,h3⟩:=Gu ao ha;obtain⟨h,k1,k2,k3⟩:=Gu ao hb;obtain⟨c,c1,c2,c3⟩:=hx g h1 h k1 a h2 b k2 dU;obtain⟨x,x1,x2⟩:=hc c c1;rcases m9.mp x2 with z|z
  .exact h3 x (c2.symm.trans z) x1
  .exact k3 x (c3.symm.trans z) x1
theorem snd_mk(ao:bL e t tb)(hg:∀ m∈gm,gs[m.1]?=some m.2)(h:vd ps (ju gm e.toNat tb) cs):∀ c∈cs,∃ m n,iH gs tb [] c.1 m/\iH gs tb [] c.2 n/\clash ps m n:=λc hc=>by
 obtain⟨g,h1,k,h2,m,h3,n,h4,rfl,h5⟩:=h c hc;have one:∀ g∈ju gm e.toNat tb,∀ m∈g.2,iH gs tb [] (g.1,m.1) m:=λg m8 m hm=>by
  rcases YV.mp m8 with rfl|z
  .exact⟨rfl,hg m hm⟩
  .obtain⟨q,hq,rfl⟩:=YO.mp z;obtain⟨i,_,rfl⟩:=YO.mp hq;obtain⟨r,hr,e1,rfl⟩:=ze.mp hm;have ho:=ao.2 r hr;unfold lh at ho;refine⟨rfl,abE,?_⟩;show (((i:Int),((r.1.2.toNat:Nat):Int)),r.2)∈tb;rw[aao ho.2.1,<- e1];exact hr
 exact⟨m,n,one g h1 m h3,one k h2 n h4,h5⟩
section
end
abbrev jv(h:aa4)(e it:YN)(i:Int)(old:YB)(a:YN)(f:Bool):Prop :=
 h.get? e=some { cls:=.type "enumerate",dict:=none,data:=.fields #[abY a,.bool f,.ref it,abY i,.none,old],slots:=#[] }
section
theorem RD{e it l a:YN}{f:Bool}{oa:Obj}{i:Nat}{items:Array YB}{x old:YB}{Q:Option YB->YK->Prop}
 (he:jv s.heap e it i old a f) (ha:s.heap.get? a=some oa) (RE:a≠e) (RF:a≠it) (hit:s.heap.IsListIter it l i) (hl:s.heap.IsList l items) (hx:items[i]?=some x) (a7:e≠it)
 (hQ:∀ h',jv h' e it ((i:Int)+1) old a true->h'.IsListIter it l (i+1) ->
   h'.get? s.heap.objs.size=some { cls:=.type "tuple",data:=.seq #[.int i s.toks,x] }->h'.objs.size=s.heap.objs.size+1 ->
   (∀ b o,b≠e->b≠it->s.heap.get? b=some o->h'.get? b=some o)->Q (some (.ref s.heap.objs.size)) { s with heap:=h',toks:=s.toks+1 }) :
 YT (model prog w) A (abe (.ref e)) Q E s:=by
 have hT:s.TypeIs (.ref e) "enumerate" := ⟨_,he,rfl⟩;obtain⟨hp,g,d,tk,os⟩:=s;unfold abe;refine Yt (abq (Z2 (name:=YG "__next__") hT aaM
  (ZZ aaM hT acu ?_ (aco _))))
 show YT _ _ (field (.ref e) 2 >>= _) _ _ _;refine Yt (acM he rfl (x:=.ref it) rfl ?_);refine Yt (wpAny_nextOf_list_item hit hl hx λh₁ Gv oZ=>?_);replace oZ:Heap.SameBut it hp h₁:=oZ;have ve:jv h₁ e it i old a f:=(oZ.2 e a7).trans he;show YT _ _ (field (.ref e) 3 >>= _) _ _ ⟨h₁,g,d,tk,os⟩;refine Yt (acM ve rfl (x:=abY i) rfl ?_);show YT _ _ (field (.ref e) 4 >>= _) _ _ ⟨h₁,g,d,tk,os⟩;refine Yt (acM ve rfl (x:=.none) rfl ?_);show YT _ _ (mkInt i >>= _) _ _ ⟨h₁,g,d,tk,os⟩;refine Yt (wpAny_mkInt ?_);show YT _ _ (afU (.ref e) 3 (abY ((i:Int)+1)) >>= _) _ _ ⟨h₁,g,d,tk+1,os⟩;refine Yt (acX ve (by simp) λh₂ vf o4=>?_);replace o4:Heap.SameBut e h₁ h₂:=o4;replace vf:jv h₂ e it ((i:Int)+1) old a f:=vf;show YT _ _ (afU (.ref e) 4 .none >>= _) _ _ ⟨h₂,g,d,tk+1,os⟩;refine Yt (acX vf (by simp) λh₃ vg o5=>?_);replace o5:Heap.SameBut e h₂ h₃:=o5;replace vg:jv h₃ e it ((i:Int)+1) old a f:=vg;show YT _ _ (agL [.int i tk,x] >>= _) _ _ ⟨h₃,g,d,tk+1,os⟩;refine Yt (aez ?_);have qW:jv (h₃.push { cls:=.type "tuple",data:=.seq #[.int i tk,x] }) e it ((i:Int)+1) old a f:=Yy _ vg;generalize qX:h₃.push { cls:=.type "tuple",data:=.seq #[.int i tk,x] }=h₄ at qW;have hsz:h₃.objs.size=hp.objs.size:=by rw[o5.1,o4.1,oZ.1]
 have qQ:e<hp.objs.size:=YA he;have RG:h₄.get? hp.objs.size=some { cls:=.type "tuple",data:=.seq #[.int i tk,x] }:=by rw[<- qX,<- hsz];exact YH _ rfl
 have RH:h₄.objs.size=hp.objs.size+1:=by rw[<- qX,aap,hsz]
 have Gw:∀ b o,b≠e->b≠it->hp.get? b=some o->h₄.get? b=some o:=λb o iS F8 hb=>by rw[<- qX];exact Yy _ (o5.extBut b o iS (o4.extBut b o iS (oZ.extBut b o F8 hb)))
 have RI:h₄.IsListIter it l (i+1):=by rw[<- qX];obtain⟨o,ho,r⟩:=(Gv.extBut o4.extBut (Zt a7)).extBut o5.extBut (Zt a7);exact⟨o,Yy _ ho,r⟩
 show YT _ _ (abK (.ref e) >>= _) _ _ ⟨h₄,g,d,tk+1,os⟩;rw[hsz];clear qX vg o5 vf o4 ve oZ Gv hsz h₃ h₂ h₁;have RJ:h₄.get? a=some oa:=Gw a oa RE RF ha;refine Yt ?_;unfold abK;refine Yt (acM qW rfl (x:=abY a) rfl ?_);show YT _ _ (loadIfAlive ((a:Int).toNat) >>= _) _ _ _;rw[Zq];refine Yt (PySem.W.kdx_alive RJ ?_);simp only[Option.isNone_some,Y5,if_false];refine Yt (acM qW rfl (x:=.bool f) rfl ?_);have fin:∀ h₅:aa4,jv h₅ e it ((i:Int)+1) old a true->Heap.SameBut e h₄ h₅->Q (some (.ref hp.objs.size)) ⟨h₅,g,d,tk+1,os⟩:=λh₅ qY lB =>
  hQ h₅ qY (RI.extBut lB.extBut (Zt a7)) (lB.extBut _ _ (ZM qQ) RG) (by show h₅.objs.size=hp.objs.size+1;rw[lB.1,RH]) λb o Gx jT q=>lB.extBut b o Gx (Gw b o Gx jT q)
 cases f with
 | true =>
  rw[if_neg (show ¬ ((aaj true != aaj true)=true) from Y3)];refine Yz ?_;simp only[Y5,if_false];exact Yz ⟨_,rfl,Yz (fin h₄ qW (Heap.SameBut.refl _ _))⟩
 | false =>
  rw[if_pos (show (aaj false != aaj true)=true from rfl)];refine Yt (acX qW (by simp) λh₅ qY lB=>?_);replace lB:Heap.SameBut e h₄ h₅:=lB;replace qY:jv h₅ e it ((i:Int)+1) old a true:=qY;refine Yz ?_;simp only[Y5,if_false];exact Yz ⟨_,rfl,Yz (fin h₅ qY lB)⟩
theorem RK{e it l a:YN}{f:Bool}{i:Nat}{items:Array YB}{old:YB}{Q:Option YB->YK->Prop}(hh:A.handled=none)
 (he:jv s.heap e it i old a f) (hit:s.heap.IsListIter it l i) (hl:s.heap.IsList l items) (hx:items[i]?=none)
 (hQ:∀ h',agg it s.heap h'->Q none { s with heap:=h' }):YT (model prog w) A (abe (.ref e)) Q E s:=by
 have hT:s.TypeIs (.ref e) "enumerate" := ⟨_,he,rfl⟩;unfold abe;refine Yt (abq (Z2 (name:=YG "__next__") hT aaM
  (ZZ aaM hT acu ?_ (aco _))))
 show YT _ _ (field (.ref e) 2 >>= _) _ _ _;refine Yt (acM he rfl (x:=.ref it) rfl ?_);refine Yt (wpAny_nextOf_list_end hh hit hl hx λh' x oO cM=>?_);obtain⟨o,ho,hc⟩:=cM;refine Yt (abG (T := "StopIteration") (b:=true) ⟨o,ho,hc⟩ aeA ?_);exact Yz (hQ _ oO)
def nc(h:aa4)(e it S:YN)(i:Nat):Prop :=
 (∃ old,IsEnum h e it i old) ∨ ∃ old a f oa,jv h e it i old a f/\h.get? a=some oa/\a≠e/\a≠it/\a≠S
theorem nc.keep(x:nc h e it S i)(hk:∀ b o,b≠S->h.get? b=some o->h'.get? b=some o)(hI:e≠S):nc h' e it S i:=by
 rcases x with ⟨old,q⟩|⟨old,a,f,oa,q,ha,h1,h2,h3⟩
 .exact .inl ⟨old,hk _ _ hI q⟩
 .exact .inr ⟨old,a,f,oa,hk _ _ hI q,hk _ _ h3 ha,h1,h2,h3⟩
theorem RL(st:nc s.heap e it S i)(hS:S<s.heap.objs.size)(hit:s.heap.IsListIter it l i)(hl:s.heap.IsList l items)(hx:items[i]?=some x)(a7:e≠it)(hQ:∀ h',nc h' e it S (i+1)->h'.IsListIter it l (i+1) ->
 h'.get? s.heap.objs.size=some { cls:=.type "tuple",data:=.seq #[.int i s.toks,x] }->h'.objs.size=s.heap.objs.size+1 ->
 (∀ b o,b≠e->b≠it->s.heap.get? b=some o->h'.get? b=some o)->Q (some (.ref s.heap.objs.size)) { s with heap:=h',toks:=s.toks+1 }) :
 YT (model prog w) A (abe (.ref e)) Q E s:=by
 have ce:((i:Int)+1)=((i+1:Nat):Int):=by lia
 have hi:it<s.heap.objs.size:=let ⟨_,q,_⟩:=hit;YA q;rcases st with ⟨old,he⟩|⟨old,a,f,oa,he,ha,h1,h2,h3⟩
 .exact adU he hit hl hx a7 λh' q1 q2 q3 q4 q5=>hQ h' (.inr ⟨x,_,false,_,by rw[<- ce];exact q1,q3,ZM (YA he),ZM hi,ZM hS⟩) q2 q3 q4 q5
 .exact RD he ha h1 h2 hit hl hx a7 λh' q1 q2 q3 q4 q5=>hQ h' (.inr ⟨old,a,true,oa,by rw[<- ce];exact q1,q5 a oa h1 h2 ha,h1,h2,h3⟩) q2 q3 q4 q5
theorem RM(hh:A.handled=none)(st:nc s.heap e it S i)(hit:s.heap.IsListIter it l i)(hl:s.heap.IsList l items)(hx:items[i]?=none)(hQ:∀ h',agg it s.heap h'->Q none { s with heap:=h' }):YT (model prog w) A (abe (.ref e)) Q E s:=by
 rcases st with ⟨old,he⟩|⟨old,a,f,oa,he,_⟩
 .exact aeb hh he hit hl hx hQ
 .exact RK hh he hit hl hx hQ
end
structure km(items:Array YB)(lo:YN)(h:aa4)(as:List YN):Prop where
 rise:as.Pairwise (· < ·)
 above:∀ a∈as,lo<=a
 pairs:∀ (j:Nat) (a:YN),as[j]?=some a->∃ t x,items[j]?=some x/\h.get? a=some { cls:=.type "tuple",data:=.seq #[.int j t,x] }
theorem km.there{items:Array YB}{lo:YN}{h:aa4}{as:List YN}(g:km items lo h as){a:YN}(ha:a∈as):a<h.objs.size:=by obtain⟨j,hj⟩:=aac.mp ha;obtain⟨_,_,_,e⟩:=g.pairs j a hj;exact YA e
theorem km.keep{items:Array YB}{lo:YN}{h h':aa4}{as:List YN}(g:km items lo h as)(k:∀ b o,lo<=b->h.get? b=some o->h'.get? b=some o):km items lo h' as :=
 ⟨g.rise,g.above,λj a hj=>let ⟨t,x,e1,e2⟩:=g.pairs j a hj;⟨t,x,e1,k a _ (g.above a (Y6 hj)) e2⟩⟩
section
variable{prog:Zy}{w:aaa}{A:aaq}{s:YK}{R:afx->YK->Prop}{items:Array YB}
theorem RN{S e it l lo:YN}(hh:A.handled=none)(a7:e≠it)(o6:S≠e)(o7:S≠it)(vh:l≠S)(hle:l≠e)(lx:l≠it)(Gy:S<lo)(RO:e<lo)(GA:it<lo)(hn:items.size<=Y0)(res:YB){h₁:aa4}
 (hR:∀ h' tk acc c as,(∀ b o,b≠S->b≠e->b≠it->h₁.get? b=some o->h'.get? b=some o)->h'.get? S=some { cls:=.type "list",dict:=none,data:=.seq acc c,slots:=#[] }->as.length=items.size->km items lo h' as ->
   acc.toList=as.map Y7->R (.ok (.ret res)) { s with heap:=h',toks:=tk }) :
 ∀ (k i:Nat) (h:aa4) (tk c:Nat) (acc:Array YB) (as:List YN),items.size-i=k->i<=items.size->nc h e it S i->h.IsListIter it l i->h.IsList l items->(∀ b o,b≠S->b≠e->b≠it->h₁.get? b=some o->h.get? b=some o) ->
  h.get? S=some { cls:=.type "list",dict:=none,data:=.seq acc c,slots:=#[] }->acc.toList=as.map Y7->as.length=i->km items lo h as->lo<=h.objs.size ->
  abv (model prog w) A (.builtin "list.extend.loop" ⟨[.ref S,.ref e,res],[]⟩) R { s with heap:=h,toks:=tk }:=by
 intro k
 induction k with
 | zero =>
  intro i h tk c acc as hk hi cc hit hl zf hS fW lC hG hz;have bK:i=items.size:=by lia
  refine ZI ac9 ?_;rw[Zv aaW _];show YT _ A.in1 (abe (.ref e) >>= _) _ _ _;refine Yt (RM (s:={ s with heap:=h,toks:=tk }) (A:=A.in1) hh cc hit hl (abc (by lia)) λh' he=>?_);exact Yz (hR h' tk acc c as (λb o h1 h2 h3 q=>he b o h3 (zf b o h1 h2 h3 q)) (he S _ o7 hS) (by lia) (hG.keep λb o hb q=>he b o (ZM (YU GA hb)) q) fW)
 | succ k ih =>
  intro i h tk c acc as hk hi cc hit hl zf hS fW lC hG hz;have aU:i<items.size:=by lia
  refine ZI ac9 ?_;rw[Zv aaW _];show YT _ A.in1 (abe (.ref e) >>= _) _ _ _;refine Yt (RL (s:={ s with heap:=h,toks:=tk }) (A:=A.in1) cc (YA hS) hit hl (Zj aU) a7 λh' b0 jZ hT hsz fS=>?_);have kh:=fS S _ o6 o7 hS;have GB:acc.size=i:=by
   have:acc.toList.length=i:=by rw[fW,Yw,lC]
   simpa using this
  show YT _ A.in1 (adn S (·.push (.ref h.objs.size)) >>= _) _ _ _;refine Yt ?_;have GC:lo<=h.objs.size:=hz;have sb:∀ b o,b≠S->h'.get? b=some o->(h'.update S (Zg (·.push (.ref h.objs.size)))).get? b=some o:=λb o hb q=>(YM _ _ (Zt hb)).trans q;refine aaJ kh rfl (Yz ⟨aaB aaW _,ih (i+1) _ (tk+1) _ (acc.push (.ref h.objs.size)) (as++[h.objs.size]) (by lia) aU
   (b0.keep sb (Zt o6)) (jZ.at λo q=>sb it o (Zt o7) q) ((hl.at λo q=>fS l o hle lx q).at λo q=>sb l o vh q)
   (λb o h1 h2 h3 q=>sb b o h1 (fS b o h2 h3 (zf b o h1 h2 h3 q))) (Zo _ kh rfl) (by rw[aft,fW];simp) (by rw[YJ,lC];rfl) ?_ ?_⟩)
   (by rw[GB];lia) (by show (acc.push _).size<=Y0+1;rw[agb,GB];lia)
  .have up:∀ b o,lo<=b->h.get? b=some o->(h'.update S (Zg (·.push (.ref h.objs.size)))).get? b=some o:=λb o hb q =>
    sb b o (ZM (YU Gy hb)) (fS b o (ZM (YU RO hb)) (ZM (YU GA hb)) q)
   have G':=hG.keep up;refine⟨?_,?_,?_⟩
   .refine aes.mpr ⟨hG.rise,List.pairwise_singleton _ _,λa ha b hb=>?_⟩;rw[YZ.mp hb];exact hG.there ha
   .intro a ha;rcases YX.mp ha with ha|ha
    .exact hG.above a ha
    .rw[YZ.mp ha];exact GC
   .intro j a hj;by_cases hjl:j<as.length
    .rw[Zx hjl] at hj;exact G'.pairs j a hj
    .rw[ZD (by lia)] at hj;have RP:j-as.length=0:=by
      rcases Nat.eq_zero_or_pos (j-as.length) with z|z
      .exact z
      .rw[ZF (by rw[YR];exact z)] at hj;cases hj
     rw[RP] at hj;cases hj;obtain rfl:j=i:=by lia
     exact⟨_,_,Zj aU,sb _ _ (ZM (YU Gy GC)) hT⟩
  .rw[(ZO ..).1];show lo<=h'.objs.size;rw[hsz];exact afr hz
end
theorem RQ:afh (.type "enumerate") "__len__" = pure none:=by rw[acI,abk];kernel_rfl
theorem RS:afh (.type "enumerate") "__length_hint__" = pure none:=by rw[acI,abk];kernel_rfl
section
theorem RT(hh:A.handled=none)(old:YB)(he:IsEnum s.heap e it 0 old)(hit:s.heap.IsListIter it l 0)(hl:s.heap.IsList l items)(a7:e≠it)(hle:l≠e)(lx:l≠it)(S:YN)(o6:S≠e)(o7:S≠it)(vh:l≠S)(res:YB)(c:Nat)(hS:s.heap.get? S=some { cls:=.type "list",data:=.seq #[] c })(hn:items.size<=Y0)(hR:∀ g tk acc c' as,(∀ b o,b≠S->b≠e->b≠it->s.heap.get? b=some o->g.get? b=some o)->g.get? S=some { cls:=.type "list",dict:=none,data:=.seq acc c',slots:=#[] }->as.length=items.size->km items s.heap.objs.size g as ->
 acc.toList=as.map Y7->R (.ok (.ret res)) { s with heap:=g,toks:=tk }) :
 YT (model prog w) A.in1 (aaL (.ref S) (.ref e) res)
  (λf u=>match f with|.done f=>R (.ok f) u|.again k=>k.quiet=true/\abv (model prog w) A k R u) (λe u=>R (.error e) u) s:=by
 have h1:adq (.ref S) (.ref e)=false:=by simp[adq,o6]
 have hT:s.TypeIs (.ref e) "enumerate" := ⟨_,he,rfl⟩;unfold aaL;refine Yt (wpAny_typeOf hT ?_);rw[if_neg (by rw[h1];decide)];refine Yt (ado he ?_);refine Yt (ZN ?_);unfold abl;refine Yt (acG hT RQ ?_);show YT _ A.in1 (specialOf (Y7 e) (YG "__length_hint__") >>= _) _ _ _;refine Yt (acG hT RS ?_);refine Yz ?_;show YT _ A.in1 (rule "list.extend.makes-room" >>= λ_=>agT (.ref S) >>= λ_=>again (.builtin "list.extend.loop" ⟨[.ref S,.ref e,res],[]⟩)) _ _ _;refine Yt (abn ?_);refine Yt ?_;show YT _ A.in1 (adn S (·.push .none) >>= λ_=>adn S (·.pop)) _ _ _;refine Yt (aaJ hS rfl ?_);have GD:=Zo (Zg (·.push Value.none)) hS rfl;refine aaJ GD rfl ?_;have RU:=Zo (Zg (·.pop)) GD rfl;have ko:∀ b o,b≠S->s.heap.get? b=some o->((s.heap.update S (Zg (·.push Value.none))).update S (Zg (·.pop))).get? b=some o :=
  λb o hb e=>(YM _ _ (Zt hb)).trans ((YM _ _ (Zt hb)).trans e)
 have sz:((s.heap.update S (Zg (·.push Value.none))).update S (Zg (·.pop))).objs.size=s.heap.objs.size:=by rw[(ZO ..).1,(ZO ..).1]
 refine Yz ⟨aaB aaW _,RN (s:=s) (l:=l) (it:=it) (lo:=s.heap.objs.size) (items:=items) (h₁:=s.heap) hh a7 o6 o7 vh hle lx (YA hS) (YA he) (let ⟨_,q,_⟩:=hit;YA q) hn res hR
  items.size 0 _ s.toks _ #[] [] rfl (Zc _) (.inl ⟨old,ko _ _ (Zt o6) he⟩) (hit.at λo q=>ko it o (Zt o7) q) (hl.at λo q=>ko l o vh q) (λb o h1 _ _ q=>ko b o h1 q) RU rfl rfl ⟨.nil,(λ_ h=>nomatch h),λj a h=>by cases h⟩ (by rw[sz];exact YD _)⟩
theorem RV(hh:A.handled=none)(old:YB)(he:IsEnum s.heap e it 0 old)(hit:s.heap.IsListIter it l 0)(hl:s.heap.IsList l items)(a7:e≠it)(hle:l≠e)(lx:l≠it)(hn:items.size<=Y0)(hQ:∀ g tk acc c as,(∀ b o,b≠e->b≠it->s.heap.get? b=some o->g.get? b=some o)->g.get? s.heap.objs.size=some { cls:=.type "list",dict:=none,data:=.seq acc c,slots:=#[] }->as.length=items.size->km items (s.heap.objs.size+1) g as ->
 acc.toList=as.map Y7->Q (.ref s.heap.objs.size) { s with heap:=g,toks:=tk }) :
 YT (model prog w) A (call (.type "list") [.ref e]) Q E s:=by
 have le:e<s.heap.objs.size:=YA he;have li:it<s.heap.objs.size:=let ⟨_,q,_⟩:=hit;YA q;have ll:l<s.heap.objs.size:=let ⟨_,q,_⟩:=hl;YA q;refine callType_codes (Q₁:=λy s₁=>y = .ref s.heap.objs.size/\s₁ = { s with heap:=s.heap.push { cls:=.type "list",data:=.seq #[] } }) PySem.F.called_list (PySem.F.typeCall_list_1 _) PySem.F.entry_list_init (code_list_new _ ⟨rfl,rfl⟩) λy s₁ h₁=>?_;obtain⟨rfl,rfl⟩:=h₁;have e0:(s.heap.push { cls:=.type "list",data:=.seq #[] }).get? s.heap.objs.size=some { cls:=.type "list",data:=.seq #[] }:=YH _ rfl;refine⟨⟨_,e0,rfl⟩,PySem.F.args_list_init_2 _ _,?_⟩;show YT _ A.in1.in1 (do let z <- adY (.ref s.heap.objs.size);agR (.ref s.heap.objs.size) (λ_=>#[]);letGo z.toList.reverse;aaL (.ref s.heap.objs.size) (.ref e) .none) _ _ _;refine Yt ?_;unfold adY;refine Yt (abx e0 rfl (Yz ?_));refine Yt (m:=adn s.heap.objs.size (λ_=>#[])) (aaJ e0 rfl ?_);have e1:=Zo (Zg (λ_=>(#[]:Array YB))) e0 rfl;have ko:∀ b o,b≠s.heap.objs.size->s.heap.get? b=some o->((s.heap.push { cls:=.type "list",data:=.seq #[] }).update s.heap.objs.size (Zg (λ_=>(#[]:Array YB)))).get? b=some o :=
  λb o hb e=>(YM _ _ (Zt hb)).trans (Yy _ e)
 have sz:((s.heap.push { cls:=.type "list",data:=.seq #[] }).update s.heap.objs.size (Zg (λ_=>(#[]:Array YB)))).objs.size=s.heap.objs.size+1:=by rw[(ZO ..).1,size_push']
 refine Yt (abg ?_);exact RT (A:=A.in1) hh old (ko e _ (YS le) he) (hit.at λo q=>ko it o (YS li) q) (hl.at λo q=>ko l o (YS ll) q) a7 hle lx s.heap.objs.size (ZM le) (ZM li) (YS ll) .none _ e1 hn
  λg tk acc c as hk hS lC hG fW=>⟨rfl,hQ g tk acc c as (λb o h1 h2 q=>hk b o (YS (YA q)) h1 h2 (ko b o (YS (YA q)) q)) hS lC (by rw[<- sz];exact hG) fW⟩
theorem Inv.GF(I:Inv X pins σ H s)(hf:cV X pins H T)(new:bw X.prog X.w (upd H T o) s.heap T o):Inv X pins σ (upd H T o) s:=by
 have fz:∀ b u,H b=some u->b≠T:=λb u e=>hJ e hf.1;have up:∀ b u,H b=some u->upd H T o b=some u:=λb u e=>by rw[aC (fz b u e)];exact e
 refine I.step (g':=s.gens) (t':=s.toks) (d':=s.drawn) (h':=s.heap) (ch:=[T]) (λb hb=>?_) (λb o _ _ hc e _=>e) (λb o _ _ hc e _=>⟨o.slots,e⟩) (λb u hc e n=>by rw[aC (by simpa using hc)];exact n)
  (λb o hc e=>⟨o,e⟩) (λb xs e=>up b _ e) (λb _ _ e=>up b _ e) (λb ps e=>⟨#[],by rw[up b _ e];simp⟩) (λm hm=>hm) (λb u e=>?_) I.bare
 .obtain rfl:b=T:=by simpa using hb
  obtain⟨_,d1,d2,d3,d4,d5⟩:=hf;exact⟨d3,d1,d4,d5⟩
 .by_cases hb:b=T
  .subst hb;rw[az] at e;cases e;exact new
  .rw[aC hb] at e;exact (I.ao b u e).fh (λc v hc q=>q) (λc q=>up c _ q) λc xs q=>up c _ q
theorem RW(h:cV X pins H b)(hb:b≠T):cV X pins (upd H T o) b:=⟨by rw[aC hb];exact h.1,h.2⟩
theorem GG:∀ (as:List YN) (xs:List V) (us:List YB) (i:Nat) (H:Hp),Inv X pins σ H s->Vals xs us->as.length=xs.length->as.Pairwise (· < ·)->(∀ a∈as,cV X pins H a) ->
 (∀ j a u,as[j]?=some a->us[j]?=some u->∃ t,s.heap.get? a=some { cls:=.type "tuple",data:=.seq #[.int ((i+j:Nat):Int) t,u] }) ->
 ∃ H',ak H H'/\Inv X pins σ H' s/\(∀ b,b∉as->H' b=H b)/\∀ j a x,as[j]?=some a->xs[j]?=some x->H' a=some (.tup [.int ((i+j:Nat):Int),x])
 | [],[],us,i,H,I,r,hl,hp,hf,ht=>⟨H,λ_ _ e=>e,I,λ_ _=>rfl,λj a x h=>by cases h⟩
 | [],_::_,us,i,H,I,r,hl,hp,hf,ht=>by cases hl
 | _::_,[],us,i,H,I,r,hl,hp,hf,ht=>by cases hl
 | a::as,x::xs,us,i,H,I,r,hl,hp,hf,ht=>by
  cases us with
  | nil=>cases r
  | cons u us =>
  cases r with
  | cons r rs =>
  obtain⟨aU,dP⟩:=ae2.mp hp;have na:∀ b∈as,b≠a:=λb hb=>ZM (aU b hb);obtain⟨t,h0⟩:=ht 0 a u rfl rfl;have I1:=Inv.GF (o:=.tup [.int ((i+0:Nat):Int),x]) I (hf a (.head _)) ⟨xK,[.int ((i+0:Nat):Int) t,u],.cons ⟨_,rfl⟩ (.cons r .nil),⟨_,h0,rfl,_,rfl⟩⟩;obtain⟨H',s1,I2,k1,k2⟩:=GG as xs us (i+1) _ I1 rs (by simpa using hl) dP (λb hb=>RW (hf b (.tail _ hb)) (na b hb)) λj b v e1 e2=>by obtain⟨t',q⟩:=ht (j+1) b v e1 e2;exact⟨t',by rw[show i+1+j=i+(j+1) by lia];exact q⟩
  refine⟨H',λb v e=>s1 b v (by rw[aC (hJ e (hf a (.head _)).1)];exact e),I2,λb hb=>?_,λj b y e1 e2=>?_⟩
  .rw[k1 b (λz=>hb (.tail _ z)),aC (λz=>hb (by rw[z];exact .head _))]
  .cases j with
   | zero =>
    cases e1;cases e2;rw[k1 a (λz=>na a z rfl),az]
   | succ j =>
    have:=k2 j b y e1 e2;rw[show i+1+j=i+(j+1) by lia] at this;exact this
end
theorem GH:∀ as:List YN,Vals (as.map V.ref) (as.map Y7)
 | []=>.nil
 | _::as=>.cons rfl (GH as)
def GI(K:Yu)(ta:TA):TE:=λσ H Q=>ta σ H λvs H1=>∃ a xs,vs=[.ref a]/\ah K H1 a xs/\∀ l ys H',ak H1 H'->H1 l=none->H' l=some (.lst ys)->ys.length=xs.length ->
 (∀ j y x,ys[j]?=some y->xs[j]?=some x->∃ p,y = .ref p/\H1 p=none/\H' p=some (.tup [.int (j:Nat),x]))->Q (.ref l) H'
theorem RX(hc:X.calm=true)(hg:Gl X "list")(hm:X.mg "list" = none)(qS:Gl X "enumerate")(ly:X.mg "enumerate" = none)(ha:PA X [e] ta)(hs:Y2 [.Call (.Name "enumerate" p2) [e] [] fZ] X.env=[(false,eval (.Call (.Name "enumerate" p2) [e] [] fZ) X.env)]:=by rfl)(b5:Y2 [e] X.env=[(false,eval e X.env)]:=by rfl) :
 PE X (.Call (.Name "list" p) [.Call (.Name "enumerate" p2) [e] [] fZ] [] pos) (GI X.K ta):=by
 intro pins s σ H Q I h;refine agW (dR I hg hm oh (Za ?_ hs rfl));rw[hs];show YT _ _ (spliced ((false,eval (.Call (.Name "enumerate" p2) [e] [] fZ) X.env)::aaC pos [])) _ _ s;refine aav (agW (dR I qS ly C2 (Za (aD (ha fZ pins s σ H _ I h) λus s1 zq=>?_) b5 rfl)));obtain⟨vs,H1,I1,r1,q1⟩:=zq;obtain⟨a,xs,rfl,hq,q⟩:=q1;obtain⟨u,rfl,ru⟩:=vals1 r1;cases ru;obtain⟨ai,rv,pl,hz⟩:=I1.list hq;refine aeI pl.isList λh' he hit hsz hk=>?_;refine aaE ?_;have la:a<s1.heap.objs.size:=let ⟨_,e,_⟩:=pl.isList;YA e;refine RV (s:={ s1 with heap:=h' }) (l:=a) (items:=ai.toArray) (I1.ok.hd hc) .none he hit (pl.isList.at λo e=>hk a o e) (afR _) (YS (abt la)) (YS la) (by rw[YI,<- rv.length];exact hz) λg tk acc c as kr hD lC hG fW=>?_;have up:∀ b o,s1.heap.get? b=some o->g.get? b=some o:=λb o e=>kr b o (YS (abt (YA e))) (YS (YA e)) (hk b o e);have I2:Inv X pins σ H1 { s1 with heap:=g,toks:=tk }:=I1.kept (t':=tk) up;have zg:∀ b∈as,s1.heap.objs.size<=b:=λb hb=>by have:=hG.above b hb;have e:({ s1 with heap:=h' }:YK).heap.objs.size=s1.heap.objs.size+2:=hsz;walk_at "o"
 obtain⟨H',s2,I3,k1,k2⟩:=GG as xs ai 0 H1 I2 rv (by rw[lC,YI];exact rv.length.symm) hG.rise (λb hb=>I1.fq (zg b hb) (I1.ao.fresh (zg b hb))) λj b v e1 e2=>by
  obtain⟨t,x,e3,e4⟩:=hG.pairs j b e1;have:x=v:=by simpa [e2] using e3.symm
  subst this;exact⟨t,by rw[ag7];exact e4⟩
 have hl:s1.heap.objs.size<=h'.objs.size:=by rw[hsz];exact Nat.le_add_right _ _
 have nl:h'.objs.size∉as:=λz=>absurd (hG.above _ z) (Nat.not_succ_le_self _);have f0:=I1.ao.fresh hl;have GJ:as.length=xs.length:=by rw[lC,YI];exact rv.length.symm
 refine⟨.ref h'.objs.size,upd H' h'.objs.size (.lst (as.map V.ref)),Inv.GF I3 (I1.fq hl (by rw[k1 _ nl];exact f0)) ⟨by rw[Yw,GJ];exact hz,acc.toList,c,?_,by rw[aew];exact hD⟩,rfl,q _ (as.map V.ref) _ (λb v e=>?_) f0 (az ..) (by rw[Yw,GJ]) λj y x e1 e2=>?_⟩
 .rw[fW];exact GH as
 .rw[aC (hJ e f0)];exact s2 b v e
 .rw[YF] at e1;obtain⟨b,hb,rfl⟩:=Zh.mp e1;have hm:=Y6 hb;refine⟨b,rfl,I1.ao.fresh (zg b hm),?_⟩;rw[aC (λz=>nl (by rw[<- z];exact hm))];have:=k2 j b x hb e2;rw[ag7] at this;exact this
def lD:L2.St->Nat->(V->Prop)->Prop
 | [],_,_=>False
 | x::_,0,Q=>match x with|some v=>Q v|none=>False
 | _::σ,n+1,Q=>lD σ n Q
def bV(x:V)(Q:Int->Prop):Prop:=match x with|.int i=>Q i|_=>False
def ng(x:V)(Q:Bool->Prop):Prop:=match x with|.bl i=>Q i|_=>False
def qZ(x:V)(Q:YN->Prop):Prop:=match x with|.ref i=>Q i|_=>False
def RY(xs:List V)(Q:V->Prop):Prop:=match xs with|[x]=>Q x|_=>False
def RZ(xs:List V)(Q:V->V->Prop):Prop:=match xs with|[x,y]=>Q x y|_=>False
def lE(x:V)(Q:Bool->Prop):Prop:=match x with|.non=>Q true|_=>Q false
def jw(x:V)(Q:Bool->Prop):Prop:=match x with|.non=>Q false|_=>Q true
section
theorem R0:lD (some v::σ) 0 Q=Q v:=rfl
theorem R6:lD (o::σ) (n+1) Q=lD σ n Q:=rfl
theorem R7:bV (.int i) QI=QI i:=rfl
theorem R8:ng (.bl b) QB=QB b:=rfl
theorem R9:qZ (.ref a) QR=QR a:=rfl
theorem Sa:RY [x] Q=Q x:=rfl
theorem Sb:RZ [x,y] Q2=Q2 x y:=rfl
theorem Sd:lE .non QB=QB true:=rfl
theorem Se:lE (.int i) QB=QB false:=rfl
theorem Sf:lE (.bl b) QB=QB false:=rfl
theorem Sg:lE (.ref a) QB=QB false:=rfl
theorem Sh:jw .non QB=QB false:=rfl
theorem Si:jw (.int i) QB=QB true:=rfl
theorem Sj:jw (.bl b) QB=QB true:=rfl
theorem Sk:jw (.ref a) QB=QB true:=rfl
theorem Sl:jw (.str s) QB=QB true:=rfl
theorem Sm:lE (.str s) QB=QB false:=rfl
theorem lD.ex:∀ {σ:L2.St} {n:Nat},lD σ n Q->∃ v,σ[n]?=some (some v)/\Q v
 | [],_,h=>h.elim
 | some v::_,0,h=>⟨v,rfl,h⟩
 | none::_,0,h=>h.elim
 | _::σ,n+1,h=>lD.ex (σ:=σ) (n:=n) h
theorem bV.ex(h:bV x QI):∃ i,x = .int i/\QI i:=by cases x<;>first|exact⟨_,rfl,h⟩|exact h.elim
theorem ng.ex(h:ng x QB):∃ i,x = .bl i/\QB i:=by cases x<;>first|exact⟨_,rfl,h⟩|exact h.elim
theorem qZ.ex(h:qZ x QR):∃ i,x = .ref i/\QR i:=by cases x<;>first|exact⟨_,rfl,h⟩|exact h.elim
theorem jw.ex(h:jw x QB):QB (!decide (x = .non)):=by cases x<;>exact h
theorem lE.ex(h:lE x QB):QB (decide (x = .non)):=by cases x<;>exact h
end
section
variable{X:Cx}{e a b c:ach}{pos:Pos}{ta tb tc:TE}{op jI:CmpOp}
theorem GK(h:Q (qy x)):jw x Q:=by cases x<;>exact h
theorem vk{c:Prop}[Decidable c]{Q:Bool->Prop}(h:Q (decide c)):if c then Q true else Q false:=by
 by_cases z:c
 .rw[decide_eq_true z] at h;exact (show _=_ from if_pos z).mpr h
 .rw[decide_eq_false z] at h;exact (show _=_ from if_neg z).mpr h
def Sn(t:TE):TE:=λσ H Q=>∃ Q':VK,(∀ v H1,Q' v H1->Q v H1)/\t σ H Q'
theorem d9(h:PE X e ta):PE X e (Sn ta):=λpins s σ H Q I ⟨Q',k,q⟩=>aD (h pins s σ H Q' I q) λ_ _ ⟨x,H1,I1,r1,q1⟩=>⟨x,H1,I1,r1,k _ _ q1⟩
theorem q8(h:PE X e ta)(k:∀ σ H Q,t' σ H Q->ta σ H Q):PE X e t':=λpins s σ H Q I q=>h pins s σ H Q I (k σ H Q q)
theorem nh(h:PT X e t)(k:∀ σ H Q,t' σ H Q->t σ H Q):PT X e t':=λpins s σ H Q I q=>h pins s σ H Q I (k σ H Q q)
theorem zh(h:ba X f r)(k:∀ x y H Q,r' x y H Q->r x y H Q):ba X f r':=λpins s σ H x y v u Q I rx ry q=>h pins s σ H x y v u Q I rx ry (k _ _ _ _ q)
def GL(i:Nat):TE:=λσ H Q=>lD σ i λv=>Q v H
theorem aa(i:Nat)(hN:X.N[i]?=some x:=by rfl)(hv:tG X.env.scope x:=by first|exact acd rfl|exact afA (acd rfl)|exact afA (afA rfl))(hd:(x == ("__debug__" : Str))=false:=by decide)(fi:(x == ("__classdict__" : Str))=false:=by decide):PE X (.Name x pos) (GL i):=q8 (pv i hN hv hd fi) λ_ _ _ h=>h.ex
def q9(C:Int->Int->Prop)(g:Int->Int->V):R2:=λx y H Q=>bV x λi=>bV y λj=>C i j/\Q (g i j) H
def vm(g:Int->Int->V):R2:=λx y H Q=>bV x λi=>bV y λj=>Q (g i j) H
def zi(g:Int->V):V->Hp->VK->Prop:=λx H Q=>bV x λi=>Q (g i) H
def zj(p:Int->Int->Prop)[∀ i j,Decidable (p i j)]:R2:=λx y H Q=>bV x λi=>bV y λj=>if p i j then Q (.bl true) H else Q (.bl false) H
theorem zk(h:ba X f (rI C g)):ba X f (q9 C g):=zh h λx y H Q q=>by obtain⟨i,rfl,q1⟩:=bV.ex q;obtain⟨j,rfl,q5⟩:=bV.ex q1;exact⟨i,j,rfl,rfl,q5⟩
theorem jx(h:ba X f (fQ g)):ba X f (vm g):=zh h λx y H Q q=>by obtain⟨i,rfl,q1⟩:=bV.ex q;obtain⟨j,rfl,q5⟩:=bV.ex q1;exact⟨i,j,rfl,rfl,q5⟩
theorem zm[∀ i j,Decidable (p i j)](h:ba X f (fQ λi j=>.bl (decide (p i j)))):ba X f (zj p):=zh h λx y H Q q=>by
 obtain⟨i,rfl,q1⟩:=bV.ex q;obtain⟨j,rfl,q5⟩:=bV.ex q1;clear q q1;refine⟨i,j,rfl,rfl,?_⟩;by_cases z:p i j
 .rw[if_pos z] at q5;show Q (.bl (decide (p i j))) H;rw[decide_eq_true z];exact q5
 .rw[if_neg z] at q5;show Q (.bl (decide (p i j))) H;rw[decide_eq_false z];exact q5
theorem So(h:nY X f (rU g)):nY X f (zi g):=λpins s σ H x v Q I rx q=>h pins s σ H x v Q I rx q.ex
theorem bG:ba X (abm .Add) (vm λi j=>.int (i+j)):=jx KO
theorem dn:ba X (abm .Sub) (vm λi j=>.int (i-j)):=jx KP
theorem o8:ba X (abm .Mod) (q9 (λ_ j=>0<j) λi j=>.int (i % j)):=zk KQ
theorem ni:ba X (abm .Mult) (q9 ql λi j=>.int (i * j)):=zk Ma
theorem GN:ba X (abm .Mult) (q9 oI λi j=>.int (i * j)):=zk OD
theorem fJ:nY X (unaryOp .USub) (zi λi=>.int (-i)):=So KS
def GO(t:TE):TT:=λσ H Q=>t σ H λx H'=>ng x λk=>Q k H'
theorem cy(h:PE X e ta)(he:∀ whole,agV e X.env whole=(do let v <- whole;agE e.pos;holding [v] (truthy v)):=by intro _;rfl):PT X e (GO ta):=nh (Kx (d9 h) he) λσ H Q q=>⟨_,λ_ _ h=>h.ex,q⟩
def o9(p:Int->Int->Prop)[∀ i j,Decidable (p i j)](ta tb:TE):TT:=λσ H Q=>ta σ H λx H1=>tb σ H1 λy H2=>bV x λi=>bV y λj=>if p i j then Q true H2 else Q false H2
theorem GP{p:Int->Int->Prop}[∀ i j,Decidable (p i j)]{x y:V}{H:Hp}{Q:Bool->Hp->Prop}(q:bV x λi=>bV y λj=>if p i j then Q true H else Q false H):zj p x y H (λz H'=>∃ k,z = .bl k/\Q k H'):=by
 obtain⟨i,rfl,q1⟩:=bV.ex q;obtain⟨j,rfl,q5⟩:=bV.ex q1;clear q q1;by_cases z:p i j
 .rw[if_pos z] at q5;exact (show _=_ from if_pos z).mpr ⟨_,rfl,q5⟩
 .rw[if_neg z] at q5;exact (show _=_ from if_neg z).mpr ⟨_,rfl,q5⟩
theorem vo[∀ i j,Decidable (p i j)](ho:ba X (Z5 op) (fQ λi j=>.bl (decide (p i j))))(ha:PE X a ta)(hb:PE X b tb)(hm:aaQ op b=false):PT X (.Compare a [op] [b] pos) (o9 p ta tb) :=
 nh (iZ (zm ho) (d9 ha) (d9 hb) hm) λσ H Q q=>⟨_,λx H1 q1=>⟨_,λy H2 q2=>GP q2,q1⟩,q⟩
theorem nj(ha:PE X a ta)(hb:PE X b tb):PT X (.Compare a [.Lt] [b] pos) (o9 (λi j=>i<j) ta tb):=vo wN ha hb (cO _)
theorem Sq(ha:PE X a ta)(hb:PE X b tb):PT X (.Compare a [.LtE] [b] pos) (o9 (λi j=>i<=j) ta tb):=vo gI ha hb (cO _)
theorem pd(ha:PE X a ta)(hb:PE X b tb):PT X (.Compare a [.Gt] [b] pos) (o9 (λi j=>j<i) ta tb):=vo nZ ha hb (cO _)
theorem GQ(ha:PE X a ta)(hb:PE X b tb):PT X (.Compare a [.GtE] [b] pos) (o9 (λi j=>j<=i) ta tb):=vo KW ha hb (cO _)
def eqT(x y:V)(Q:Bool->Prop):Prop:=match x with
 | .int i=>(match y with|.int j=>if i=j then Q true else Q false|.non=>Q false|.str _=>Q false|_=>False)
 | .str i=>(match y with|.str j=>if i=j then Q true else Q false|.non=>Q false|.int _=>Q false|_=>False)
 | .bl i=>(match y with|.bl j=>if i=j then Q true else Q false|.non=>Q false|_=>False)
 | .non=>(match y with|.non=>Q true|.int _=>Q false|.bl _=>Q false|.str _=>Q false|_=>False)
 | _=>False
def neT(x y:V)(Q:Bool->Prop):Prop:=match x with
 | .int i=>(match y with|.int j=>if ¬ i=j then Q true else Q false|.non=>Q true|.str _=>Q true|_=>False)
 | .str i=>(match y with|.str j=>if ¬ i=j then Q true else Q false|.non=>Q true|.int _=>Q true|_=>False)
 | .bl i=>(match y with|.bl j=>if ¬ i=j then Q true else Q false|.non=>Q true|_=>False)
 | .non=>(match y with|.non=>Q false|.int _=>Q true|.bl _=>Q true|.str _=>Q true|_=>False)
 | _=>False
section
theorem Sr:eqT (.int i) (.int j) Q=if i=j then Q true else Q false:=rfl
theorem Ss:eqT (.str s) (.str t) Q=if s=t then Q true else Q false:=rfl
theorem Su:eqT (.bl b') (.bl b1) Q=if b'=b1 then Q true else Q false:=rfl
theorem Sv:eqT .non .non Q=Q true:=rfl
theorem Sw:eqT .non (.int j) Q=Q false:=rfl
theorem Sx:eqT (.int i) .non Q=Q false:=rfl
theorem Sy:eqT (.int i) (.str s) Q=Q false:=rfl
theorem Sz:eqT .non (.str s) Q=Q false:=rfl
theorem SA:neT (.int i) (.int j) Q=if ¬ i=j then Q true else Q false:=rfl
theorem GR:neT (.str s) (.str t) Q=if ¬ s=t then Q true else Q false:=rfl
theorem SD:neT .non .non Q=Q false:=rfl
theorem SE:neT .non (.int j) Q=Q true:=rfl
theorem SF:neT (.int i) .non Q=Q true:=rfl
theorem GS{c:Prop}[Decidable c]{Q:Bool->Prop}(q:if c then Q true else Q false):Q (decide c):=by
 by_cases z:c
 .rw[if_pos z] at q;rw[decide_eq_true z];exact q
 .rw[if_neg z] at q;rw[decide_eq_false z];exact q
theorem eqT.ex(h:eqT x y Q):jH x y=true/\Q (decide (x=y)):=by
 cases x<;>cases y<;>first
  | exact h.elim
  | exact⟨rfl,h⟩
  | (refine⟨rfl,?_⟩;have:=GS h;simpa using this)
theorem neT.ex(h:neT x y Q):jH x y=true/\Q (!decide (x=y)):=by
 cases x<;>cases y<;>first
  | exact h.elim
  | exact⟨rfl,h⟩
  | (refine⟨rfl,?_⟩;have:=GS h;simpa using this)
end
def GU(ta tb:TE):TT:=λσ H Q=>ta σ H λx H1=>tb σ H1 λy H2=>eqT x y λk=>Q k H2
def GV(ta tb:TE):TT:=λσ H Q=>ta σ H λx H1=>tb σ H1 λy H2=>neT x y λk=>Q k H2
theorem b9(ha:PE X a ta)(hb:PE X b tb):PT X (.Compare a [.Eq] [b] pos) (GU ta tb) :=
 nh (iZ kK (d9 ha) (d9 hb) (cO _)) λσ H Q q=>⟨_,λx H1 q1=>⟨_,λy H2 q2=>⟨(eqT.ex q2).1,_,rfl,(eqT.ex q2).2⟩,q1⟩,q⟩
theorem nk(ha:PE X a ta)(hb:PE X b tb):PT X (.Compare a [.NotEq] [b] pos) (GV ta tb) :=
 nh (iZ KU (d9 ha) (d9 hb) (cO _)) λσ H Q q=>⟨_,λx H1 q1=>⟨_,λy H2 q2=>⟨(neT.ex q2).1,_,rfl,(neT.ex q2).2⟩,q1⟩,q⟩
def GW(ta:TE):TT:=λσ H Q=>ta σ H λx H1=>lE x λk=>Q k H1
def GX(ta:TE):TT:=λσ H Q=>ta σ H λx H1=>jw x λk=>Q k H1
theorem dq(ha:PE X a ta):PT X (.Compare a [.Is] [.Constant .none j pos'] pos) (GW ta):=nh (tJ (pZ (d9 ha))) λσ H Q q=>⟨_,λx H1 q1=>⟨_,rfl,q1.ex⟩,q⟩
theorem fc(ha:PE X a ta):PT X (.Compare a [.IsNot] [.Constant .none j pos'] pos) (GX ta):=nh (tJ (mi (d9 ha))) λσ H Q q=>⟨_,λx H1 q1=>⟨_,rfl,jw.ex q1⟩,q⟩
def GY(p q:Int->Int->Prop)[∀ i j,Decidable (p i j)][∀ i j,Decidable (q i j)](ta tb tc:TE):TT:=λσ H Q=>ta σ H λx H1=>tb σ H1 λy H2=>bV x λi=>bV y λj=>if p i j then (tc σ H2 λz H3=>bV z λk=>if q j k then Q true H3 else Q false H3) else Q false H2
theorem zo[∀ i j,Decidable (p i j)][∀ i j,Decidable (q i j)](ho:ba X (Z5 op) (fQ λi j=>.bl (decide (p i j))))(cB:ba X (Z5 jI) (fQ λi j=>.bl (decide (q i j))))(ha:PE X a ta)(hb:PE X b tb)(hc:PE X c tc)(hm:agX [op,jI] [b,c]=false:=by with_unfolding_all rfl):PT X (.Compare a [op,jI] [b,c] pos) (GY p q ta tb tc) :=
 nh (KY (zm ho) (zm cB) (d9 ha) (d9 hb) (d9 hc) hm) λσ H Q q=>⟨_,λx H1 q1=>⟨_,λy H2 q2=>by
  obtain⟨i,rfl,q3⟩:=bV.ex q2;obtain⟨j,rfl,q5⟩:=bV.ex q3;clear q2 q3;by_cases z:p i j
  .rw[if_pos z] at q5;exact (show _=_ from if_pos z).mpr ⟨_,rfl,_,λw' H4 q4=>by
    obtain⟨k,rfl,_⟩:=bV.ex q4;exact GP (x:=.int j) q4,q5⟩
  .rw[if_neg z] at q5;exact (show _=_ from if_neg z).mpr ⟨_,rfl,⟨_,rfl,q5⟩⟩,q1⟩,q⟩
variable{rest:List ach}
def GZ(ta tb:TE):TE:=λσ H Q=>ta σ H λx H1=>ng x λc=>if c=true then tb σ H1 Q else Q (.bl false) H1
def G0(ta tb:TE):TE:=λσ H Q=>ta σ H λx H1=>ng x λc=>if c=true then Q (.bl true) H1 else tb σ H1 Q
def G2(ta:TE):TE:=λσ H Q=>ta σ H λx H1=>ng x λc=>Q (.bl (!c)) H1
theorem dQ(ha:PE X a ta)(hb:PE X (.BoolOp .And (b::rest) pos) tb):PE X (.BoolOp .And (a::b::rest) pos) (GZ ta tb):=q8 (Ky (d9 ha) hb) λσ H Q q=>⟨_,λx H1 q1=>q1.ex,q⟩
theorem G3(ha:PE X a ta)(hb:PE X (.BoolOp .Or (b::rest) pos) tb):PE X (.BoolOp .Or (a::b::rest) pos) (G0 ta tb):=q8 (Kz (d9 ha) hb) λσ H Q q=>⟨_,λx H1 q1=>q1.ex,q⟩
theorem vq(ha:PE X a ta):PE X (.UnaryOp .Not a pos) (G2 ta):=q8 (KA (d9 ha)) λσ H Q q=>⟨_,λx H1 q1=>q1.ex,q⟩
def G4(K:Yu)(ta:TE)(f:Str):TE:=λσ H Q=>ta σ H λx H1=>qZ x λa=>∃ C dx fs,H1 a=some (.ins C dx fs)/\fv K C/\fR K C f/\∃ v,fs.lookup f=some v/\Q v H1
theorem eN{f:Str}{K:Yu}(hK:X.K=K)(he:PE X e ta)(hb:abR e f X.env (eval e X.env)=eval e X.env):PE X (.Attribute e f pos) (G4 K ta f):=by
 subst hK;exact q8 (Ld (d9 he) hb) λσ H Q q=>⟨_,λx H1 q1=>by
  obtain⟨a,rfl,C,dx,fs,h1,h2,h3,v,h4,q2⟩:=q1.ex;exact⟨a,C,dx,fs,v,rfl,h1,h2,h3,h4,q2⟩,q⟩
def G5(K:Yu)(ta tv:TE)(f:Str):TS:=λD σ H=>tv σ H λy H1=>ta σ H1 λx H2=>qZ x λa=>∃ C dx fs,H2 a=some (.ins C dx fs)/\fv K C/\fR K C f/\fs.length<1000 /\
 D.nx σ (upd H2 a (.ins C dx (eE f y fs)))
theorem ph(ha:PE X o ta)(hv:PE X value tv)(hs:acw value (some (.Attribute o f pos')) pos.line X.env=pure false):PS X (.Assign [.Attribute o f pos'] value pos) (G5 X.K ta tv f):=λpins s σ H D I h =>
 Le (d9 ha) (d9 hv) hs pins s σ H D I ⟨_,λy H1 q1=>⟨_,λx H2 q2=>by
  obtain⟨a,rfl,C,dx,fs,h⟩:=q2.ex;exact⟨a,C,dx,fs,rfl,h⟩,q1⟩,h⟩
end
section
variable{X:Cx}{K:Yu}{a b e:ach}{es:List ach}{ta tb:TE}{t:TA}{pos p:Pos}
theorem aw(ha:PE X a ta)(hb:PE X b tb)(hs:w5 b:=by exact λ_ _=>rfl):PE X (.Subscript a b pos) (mv (jK X.K) ta tb):=bf bh ha hb hs
theorem cz(ha:PE X a ta)(hb:PE X b tb)(h:X.K=K:=by rfl)(hs:w5 b:=by exact λ_ _=>rfl):PE X (.Subscript a b pos) (mv (jK K) ta tb):=bf (Np h) ha hb hs
end
structure Fn(K:Yu)(mg:Str->Option YB)(x:Str)(st:aaA)(ps:List Str) where
 a:YN
 fd:abD
 F:mz K x x st a fd
 m:mg x=some (.ref a)
 b:Binds K fd ps []
structure Fm(K:Yu)(x q:Str)(st:aaA)(ps:List Str) where
 a:YN
 fd:abD
 F:mz K x q st a fd
 b:Binds K fd ps []
section
theorem SG{CX:gp}{k n:Nat}{ps:List Str}{sp:Sp}{x:Str}{st:aaA}(N:Fn X.K X.mg x st ps)(F:dC X.prog X.w X.K X.mg X.base CX k N.a N.fd ps sp)(hr:bD n X.A)(hx:Passes CX X E0)(ha:PA X (e::es) t)
 (hk:k<=n:=by decide) (hg:Gl X x:=by rfl) (gq:(x == ("__debug__" : Str))=false:=by decide) (he:Y2 (e::es) X.env=(false,eval e X.env)::Y2 es X.env:=by rfl) (c8:(aaC pos (Y2 es X.env)).any (·.1)=false:=by rfl) :
 PE X (.Call (.Name x p) (e::es) [] pos) (tZ sp [] E0 t):=cD F (hr.mono hk) hg N.m N.F.kp N.b .nil hx ha gq he c8
end
theorem SH{α:Type}{n:Nat}{p:List α->Prop}(h:∀ u vs,vs.length=n->p (u::vs)):∀ us:List α,us.length=n+1->p us
 | u::vs,e=>h u vs (Nat.succ.inj e)
theorem SJ{α:Type}{p:List α->Prop}(h:p []):∀ us:List α,us.length=0->p us
 | [],_=>h
structure Sc(N ps:List Str)(st:aaA):Prop extends qh N ps (da st) where
 b:∀ (x q:Str) (kV doc pm:YB) (an:Option YN) (aV ct:YB) (us:List YB),us.length=ps.length->bindArgs (abf x q (og st) (gK st) (da st) .none kV doc pm an aV ct) ⟨us,[]⟩=pure (ps.zip us)
section
variable{P:Zy}{w:aaa}{K:Yu}{mg:Str->Option YB}{base h:aa4}{x q:Str}{st:aaA}{N ps:List Str}{k:Nat}{sp:Sp}{C:YN}
inductive Fb(K:Yu)(x q:Str)(st:aaA)(p:YN->Prop):Prop
 | mk {f:YN} {od an:Option YN} {sl:Array (Option YB)} {oc kV dc pm cd ct:YB} (_:p f) (_:K.lookup f=some ⟨oc,od,.func (abf x q (og st) (gK st) (da st) .none kV dc pm an cd ct),sl⟩) (_:ac1 K cd q=true) (_:aba K (.ref f)=true)
def aM(K:Yu)(x:Str)(f:YN):Prop:=Zi K Y9 x=some (some (.ref f))
def jy(K:Yu)(C:YN)(x:Str)(f:YN):Prop:=ZA K (.ref C) x=some (some (.ref f))/\ad4 K (.ref f)=true
theorem Fb.fn(b:Fb K x x st (aM K x))(X:K.In h)(G:h.Ns Y9 mg)(S:Sc N ps st):Nonempty (Fn K mg x st ps) :=
 let ⟨a,l,c,k⟩:=b;⟨⟨_,_,t9 l c k,aaU X G a,(t9 l c k).binds (S.b x x)⟩⟩
theorem Fb.fm(b:Fb K x q st (jy K C x))(S:Sc N ps st):∃ F:Fm K x q st ps,jy K C x F.a :=
 let ⟨a,l,c,k⟩:=b;⟨⟨_,_,t9 l c k,(t9 l c k).binds (S.b x q)⟩,a⟩
theorem Fn.bt{y:Str}(F:Fn K mg x st [y])(S:Sc N [y] st)(s:YK)(v:YB):afg s F.fd ⟨[v],[]⟩ [(y,v)]:=by obtain⟨oc,od,kV,doc,pm,an,aV,ct,i6,e,lk,fi⟩:=F.F.ex;rw[e];exact .of_eq (S.b _ _ _ _ _ _ _ _ [v] rfl)
abbrev Ok(P:Zy)(w:aaa){K:Yu}{mg:Str->Option YB}(base:aa4)(k:Nat){x:Str}{st:aaA}{ps:List Str}(F:Fn K mg x st ps)(sp:Sp):Prop:=dC P w K mg base (de P w) k F.a F.fd ps sp
abbrev Om(P:Zy)(w:aaa){K:Yu}(mg:Str->Option YB)(base:aa4)(k:Nat){x q:Str}{st:aaA}{ps:List Str}(F:Fm K x q st ps)(sp:Sp):Prop:=dC P w K mg base (de P w) k F.a F.fd ps sp
theorem aY{F:Fn K mg x st ps}(S:Sc N ps st)
 (eW:∀ (aV:YB) (A:aaq) (outer:List Env) (s:YK) (H:Hp) (vs:List V) (Q:VK) (E:XK),bD k (A.deeper (aaw x (da st) s.heap.objs.size F.a aV))->sp vs H Q E ->
   ∃ t,aR (eF (de P w) P w K mg base N x (da st) F.a aV A outer s H E).nX (gK st) t/\t { nx:=λ_ H'=>Q .non H',rt:=Q } (start N vs) H)
 (len:∀ vs H Q E,sp vs H Q E->vs.length=ps.length:=by intro _ _ _ _ h;cases h;subst_vars;rfl):Ok P w base (k+1) F sp:=okN F.F S.1 len eW
theorem lF{F:Fn K mg x st ps}(S:Sc N ps st)
 (eW:∀ (aV:YB) (A:aaq) (outer:List Env) (s:YK) (H:Hp) (vs:List V) (Q:VK) (E:XK),bD k (A.deeper (aaw x (da st) s.heap.objs.size F.a aV))->sp vs H Q E ->
   ∃ t,aR (eF (de P w) P w K mg base N x (da st) F.a aV A outer s H E) (gK st) t/\t { nx:=λ_ H'=>Q .non H',rt:=Q } (start N vs) H)
 (len:∀ vs H Q E,sp vs H Q E->vs.length=ps.length:=by intro _ _ _ _ h;cases h;subst_vars;rfl):Ok P w base (k+1) F sp:=ij F.F S.1 len eW
theorem zp{F:Fm K x q st ps}(S:Sc N ps st)
 (eW:∀ (aV:YB) (A:aaq) (outer:List Env) (s:YK) (H:Hp) (vs:List V) (Q:VK) (E:XK),bD k (A.deeper (aaw q (da st) s.heap.objs.size F.a aV))->sp vs H Q E ->
   ∃ t,aR (eF (de P w) P w K mg base N q (da st) F.a aV A outer s H E).nX (gK st) t/\t { nx:=λ_ H'=>Q .non H',rt:=Q } (start N vs) H)
 (len:∀ vs H Q E,sp vs H Q E->vs.length=ps.length:=by intro _ _ _ _ h;cases h;subst_vars;rfl):Om P w mg base (k+1) F sp:=okN F.F S.1 len eW
theorem rd{F:Fm K x q st ps}(S:Sc N ps st)
 (eW:∀ (aV:YB) (A:aaq) (outer:List Env) (s:YK) (H:Hp) (vs:List V) (Q:VK) (E:XK),bD k (A.deeper (aaw q (da st) s.heap.objs.size F.a aV))->sp vs H Q E ->
   ∃ t,aR (eF (de P w) P w K mg base N q (da st) F.a aV A outer s H E) (gK st) t/\t { nx:=λ_ H'=>Q .non H',rt:=Q } (start N vs) H)
 (len:∀ vs H Q E,sp vs H Q E->vs.length=ps.length:=by intro _ _ _ _ h;cases h;subst_vars;rfl):Om P w mg base (k+1) F sp:=ij F.F S.1 len eW
end
section
theorem aI(i:Nat)(hN:X.N.Nodup)(he:PE X e te)(hi:X.N[i]?=some x:=by rfl)(hx:Loc X.env.scope x:=by first|exact acd rfl|exact afA rfl)(hs:acw e (some (.Name x pos')) pos.line X.env=pure false:=by rfl)(hf:X.fn x=true∨X.env.scope.names.lookup x=some .local:=by first|exact .inl rfl|exact .inr rfl) :
 PS X (.Assign [.Name x pos'] e pos) (tO te (cJ i)):=ia hN hi hx he hs hf
theorem ck(i:Nat)(hN:X.N.Nodup)(hi:X.N[i]?=some x:=by rfl)(hx:Loc X.env.scope x:=by first|exact acd rfl|exact afA rfl)(hf:X.fn x=true∨X.env.scope.names.lookup x=some .local:=by first|exact .inl rfl|exact .inr rfl):PG X (.Name x pos) (cJ i):=iX hN hi hx hf
theorem aE{k n:Nat}{ps:List Str}{sp:Sp}{st:aaA}{CX:gp}{N:Fn X.K X.mg x st ps}(F:dC X.prog X.w X.K X.mg X.base CX k N.a N.fd ps sp)(hr:bD n X.A)(ha:PA X (e::es) t)(hx:Passes CX X E0:=by exact bX)
 (hk:k<=n:=by decide) (hg:Gl X x:=by rfl) (gq:(x == ("__debug__" : Str))=false:=by decide) (he:Y2 (e::es) X.env=(false,eval e X.env)::Y2 es X.env:=by rfl) (c8:(aaC pos (Y2 es X.env)).any (·.1)=false:=by rfl) :
 PE X (.Call (.Name x p) (e::es) [] pos) (tZ sp [] E0 t):=SG N F hr hx ha hk hg gq he c8
end
theorem G6(P:Int->Bool):∀ n:Nat,((Y1 n).map λ(i:Nat)=>(i:Int)).filter P∈cw n
 | 0=>by simp[cw]
 | n+1=>by
  have ih:=G6 P n;rw[acN,Zd,ae6,cw];by_cases h:P n=true
  .refine YL _ (YO.mpr ⟨_,ih,?_⟩);simp[h]
  .refine Zl _ ?_;simpa [h] using ih
theorem G7:∀ (j:Nat) {s:List Int},s∈cw n->s.length+j<=n->∃ s'∈cw n,s'.length=s.length+j/\∀ x∈s,x∈s'
 | 0,s,h,_=>⟨s,h,rfl,λ_ z=>z⟩
 | j+1,s,h,hl=>by obtain⟨s1,h1,h2,h3⟩:=G7 j h (by lia);obtain⟨s2,h4,h5,h6⟩:=FH h1 (by lia);exact⟨s2,h4,by lia,λx hx=>h6 x (h3 x hx)⟩
end Gz
namespace Gz
open PySem L2
theorem rf:∀ {xs ys:List Int},xs.Nodup->(∀ x∈xs,x∈ys)->xs.length<=ys.length
 | [],_,_,_=>Zc _
 | x::xs,ys,h,k=>by obtain⟨h1,h2⟩:=ZY.mp h;have hx:=k x (.head _);have ih:=rf (ys:=ys.erase x) h2 λy hy=>(aex (λz=>h1 (by rw[<- z];exact hy))).mpr (k y (.tail _ hy));rw[ads hx] at ih;have:=adZ hx;rw[Zr];omega
end Gz
namespace Gz
open PySem PySem.Spec PyProof.Rows L2
theorem G8(hL:(L.length:Int)<=mo)(hc:d8 ps c)(hg:∀ k s,gs[k]?=some s->bF s (c k))(iI:gs.length<=ps.length+1)(hw:meets (b8 tb L) c)(ht:∀ r∈tb,r.1.2.toNat<=ps.length) :
 ∀ (t:Pp) (as:List Int),as.Nodup->(∀ x∈as,x∈L)->¬ Val ps gs tb mo t as
 | .nil,_,_,_,h=>h
 | .full,as,hn,hs,h=>by have:=rf hn hs;have h:mo<as.length:=h;lia
 | .cls x a b,as,hn,hs,h=>by
  obtain⟨⟨m,n,hm,iU,aX⟩,ha,hb⟩:=h;have met:∀ (s:En × Nat) (k:Mk),iH gs tb as s k->(∀ e,s.1=some e->e∉L)->bF k.2 (c k.1)/\k.1<=ps.length:=λs k hk hl=>by
   obtain⟨h1,h2⟩:=hk;obtain⟨o,j⟩:=s;cases o with
   | none =>
    have h2:gs[j]?=some k.2:=h2;have:=(YC.mp h2).1;have h1:k.1=j:=h1;rw[h1];exact⟨hg _ _ h2,by lia⟩
   | some e =>
    have h2:e∉as/\((e,(j:Int)),k.2)∈tb:=h2;have h1:k.1=j:=h1;have kr:(j,k.2)∈b8 tb L:=qV.mpr ⟨_,h2.2,hl e rfl,by simp⟩;have:=ht _ h2.2;rw[h1];exact⟨hw _ kr,by simpa using this⟩
  have step:∀ (e:Int) (t:Pp) (s:En × Nat) (k:Mk),iH gs tb as s k->s.1=some e->e∈L->Val ps gs tb mo t (as++[e])->sizeOf t<1+sizeOf x+sizeOf a+sizeOf b->False:=λe t s k hk es hl hv aU=>by
   have zr:e∉as:=by obtain⟨_,h2⟩:=hk;rw[es] at h2;exact h2.1
   refine G8 hL hc hg iI hw ht t (as++[e]) (adt.mpr ⟨hn,by simp,λy hy z hz=>?_⟩) (λy hy=>?_) hv
   .obtain rfl:z=e:=by simpa using hz
    exact λq=>zr (q ▸ hy)
   .rcases YX.mp hy with z|z
    .exact hs y z
    .obtain rfl:y=e:=by simpa using z
     exact hl
  by_cases h1:∃ e,x.1.1=some e/\e∈L
  .obtain⟨e,e1,e2⟩:=h1;rw[e1] at ha;exact step e a x.1 m hm e1 e2 ha (by lia)
  by_cases h2:∃ e,x.2.1=some e/\e∈L
  .obtain⟨e,e1,e2⟩:=h2;have hb:if x.1.1=some e then b = .nil else Val ps gs tb mo b (as++[e]):=by rw[e1] at hb;exact hb
   rw[if_neg (λz=>h1 ⟨e,z,e2⟩)] at hb;exact step e b x.2 n iU e1 e2 hb (by lia)
  have m1:=met x.1 m hm λe he z=>h1 ⟨e,he,z⟩;have m2:=met x.2 n iU λe he z=>h2 ⟨e,he,z⟩;refine PF (ms:=[m,n]) hc (λq hq=>?_) (λq hq=>?_) (.head _) (.tail _ (.head _)) aX
  .rcases YV.mp hq with rfl|hq
   .exact m1.1
   .obtain rfl:q=n:=by simpa using hq
    exact m2.1
  .rcases YV.mp hq with rfl|hq
   .exact m1.2
   .obtain rfl:q=n:=by simpa using hq
    exact m2.2
termination_by t=>sizeOf t
decreasing_by simp_wf;lia
theorem SK(he:1<=e)(rg:m<=e)(ao:bL e t tb)(hc:d8 (Zp (t-1).toNat (-d,u)) c)(hl:(es.length:Int)<=m)(ik:meets (b8 tb es) c)(k:Nat):oU e t u d m tb k (c k):=by
 have h0:=G6 (λi=>es.contains i) e.toNat;have hn:(((Y1 e.toNat).map λ(i:Nat)=>(i:Int)).filter λi=>es.contains i).length<=es.length:=by
  refine rf ?_ λx hx=>?_
  .refine (List.Pairwise.map _ (λa b dU=>?_) List.nodup_range).filter _;intro z;exact dU (by lia)
  .exact aek.mp (Y8.mp hx).2
 obtain⟨s,hs,sl,sup⟩:=G7 (m.toNat-(((Y1 e.toNat).map λ(i:Nat)=>(i:Int)).filter λi=>es.contains i).length) h0 (by lia);refine⟨s,hs,by lia,c,hc,λq hq=>?_,rfl⟩;obtain⟨r,hr,tW,rfl⟩:=qV.mp hq;refine ik _ (qV.mpr ⟨r,hr,λz=>tW (sup _ (Y8.mpr ⟨?_,aek.mpr z⟩)),rfl⟩);have ho:=ao.2 r hr;unfold lh at ho;exact YO.mpr ⟨r.1.1.toNat,ZK.mpr (by lia),by lia⟩
theorem SM{e t u d m:Int}{tb:Tb}{k:Nat}(hu:0<=u)(hd:0<=d)(ao:bL e t tb)(ht:1<=t)(hk:(k:Int)<t)(x:Int):((iD e t u d m tb k).any λs=>hs s x)=true↔oU e t u d m tb k x:=by obtain⟨h1,h2⟩:=Qj (m:=m) hu hd ao ht hk;unfold iD;rw[(Oy h1).held];exact h2 x
theorem zt(f:Nat->Int):∀ i,(firstMet f i).Nodup
 | 0=>ac6
 | i+1=>by
  rw[firstMet_succ];unfold step_dedup;split
  .exact zt f i
  .rename_i h;refine adt.mpr ⟨zt f i,by simp,λa ha b hb z=>h ?_⟩;obtain rfl:b=f i:=by simpa using hb
   exact ZE.mpr ⟨a,ha,by simpa using z⟩
theorem SN(ns:List Int)(x:Int):x∈firstMet (λi=>ns.getD i 0) ns.length↔x∈ns:=by
 have h:=firstMet_any (λi=>ns.getD i 0) ns.length x;have e:(Y1 ns.length).map (λi=>ns.getD i 0)=ns:=by refine acn (by simp) λi h1 h2=>?_;simp[h2]
 rw[e] at h;constructor
 .intro z;have:ns.any (· == x)=true:=by rw[<- h];exact ZE.mpr ⟨x,z,by simp⟩
  obtain⟨y,hy,e⟩:=ZE.mp this;exact (by simpa using e:y=x) ▸ hy
 .intro z;have:(firstMet (λi=>ns.getD i 0) ns.length).any (· == x)=true:=by rw[h];exact ZE.mpr ⟨x,z,by simp⟩
  obtain⟨y,hy,e⟩:=ZE.mp this;exact (by simpa using e:y=x) ▸ hy
def G9(K:Yu)(t:TE):TE:=λσ H Q=>t σ H λv H1=>∃ (a:YN) (ns:List Int),v=V.ref a/\ah K H1 a (ns.map V.int)/\ns.length<=1000/\∀ zs:List Int,zs.Nodup->(∀ x,x∈zs↔x∈ns)->Q (.int zs.length) H1
theorem SO(hc:X.calm=true)(he:PE X e t)(yY:X.mg "len" = none)(ly:X.mg "set" = none)(m8:Gl X "len" := by rfl)(qS:Gl X "set" := by rfl)(b5:Y2 [e] X.env=[(false,eval e X.env)]:=by rfl)(lz:Y2 [.Call (.Name "set" p2) [e] [] fZ] X.env=[(false,eval (.Call (.Name "set" p2) [e] [] fZ) X.env)]:=by rfl) :
 PE X (.Call (.Name "len" p1) [.Call (.Name "set" p2) [e] [] fZ] [] pos) (G9 X.K t):=by
 intro pins s σ H Q I h;refine ZU (dR I m8 yY cf ?_ (by decide) (by decide));refine aa5 ?_ (by rw[lz];rfl) rfl;rw[lz];show YT _ _ (spliced ((false,eval (.Call (.Name "set" p2) [e] [] fZ) X.env)::aaC pos [])) _ _ s;refine aav ?_;refine ZU (dR I qS ly FV ?_ (by decide) (by decide));refine Za ?_ (by rw[b5];rfl) rfl;rw[b5];show YT _ _ (spliced ((false,eval e X.env)::aaC fZ [])) _ _ s;refine aav (aD (he pins s σ H _ I h) λu s1 zq=>?_);obtain⟨x,H1,I1,r1,q1⟩:=zq;obtain⟨a,ns,rfl,hS,hn,q⟩:=q1;cases r1;refine aaE ?_;obtain⟨us,rv,pl,hz⟩:=I1.list hS;have hl:us.length=ns.length:=by have:=rv.length;rw[Yw] at this;lia
 refine call_set_list (items:=us.toArray) (ns:=ns) (I1.ok.hd hc) pl.isList (intsAre_of rv) (by simp;rw[hl];exact ZL (Nat.succ_le_succ hn) (by decide)) λh2 tk SQ hk=>?_;refine aaE ?_;obtain⟨o,es,ep,tb,g1,g2,g3,g4,g5,g6,g7,g8⟩:=SQ;have SR:us.toArray.size=ns.length:=by simp[hl]
 rw[SR] at g8;refine call_len_set g1 g2 g3 g7 (by rw[g8];have:=firstMet_length_le (λi=>ns.getD i 0) ns.length;lia) ?_;refine⟨.int es.size,H1,I1.kept λb o hb=>hk b o (YA hb) hb,⟨_,rfl⟩,?_⟩;rw[g8];exact q _ (zt _ _) (SN ns)
def pq(sw gw:List W2)(tb:Tb)(m:Int)(L:List Int)(c:Nat->Int):Prop:=(L.length:Int)<=m/\(∀ (j:Nat) w,sw[j]?=some w->bP w (c (j+1)-c j))/\(∀ (j:Nat) w,gw[j]?=some w->bP w (c j))/\∀ r∈tb,r.1.1∉L->bF r.2 (c r.1.2.toNat)
theorem rh:meets (b8 tb L) c ↔ ∀ r∈tb,r.1.1∉L->bF r.2 (c r.1.2.toNat):=by
 unfold meets b8;constructor
 .intro h r hr hn;exact h (r.1.2.toNat,r.2) (YO.mpr ⟨r,Y8.mpr ⟨qO.mem_iff.mpr hr,by simpa using hn⟩,rfl⟩)
 .intro h m hm;obtain⟨r,hr,rfl⟩:=YO.mp hm;obtain⟨h1,h2⟩:=Y8.mp hr;exact h r (qO.mem_iff.mp h1) (by simpa using h2)
theorem rj:(∀ (j:Nat) w,(pp.map fI)[j]?=some w->bP w (c (j+1)-c j))↔d8 pp c:=by
 constructor
 .intro h k hk;obtain⟨s,e,h1,h2⟩:=h k (fI (aB pp k)) (by rw[YF,Yx hk];unfold aB;rw[Yv,Yx hk];rfl);unfold fI at e;cases e;exact⟨h1 _ rfl,h2 _ rfl⟩
 .intro h j w hw;rw[YF] at hw;obtain⟨p,hp,rfl⟩:=Zh.mp hw;have hj:=(YC.mp hp).1;have:=h j hj;unfold aB at this;rw[Yv,hp] at this;exact⟨_,rfl,λa z=>by cases z;exact this.1,λa z=>by cases z;exact this.2⟩
theorem zu{gs:List S2}{c:Nat->Int}:(∀ (j:Nat) w,(gs.map some)[j]?=some w->bP w (c j)) ↔ ∀ (j:Nat) s,gs[j]?=some s->bF s (c j):=by
 constructor
 .intro h j s hs;obtain⟨s',e,z⟩:=h j (some s) (by rw[YF,hs];rfl);cases e;exact z
 .intro h j w hw;rw[YF] at hw;obtain⟨s,hs,rfl⟩:=Zh.mp hw;exact⟨s,rfl,h j s hs⟩
theorem SS(h:bL e t tb)(he:0<=e)(ht:0<=t):(tb.length:Int)<=e * t:=by
 have z:∀ {i i' j j':Int},i<i'->j<t->0<=j'->i * t+j<i' * t+j':=λ{i i' j j'} a b c=>by have:=Int.mul_le_mul_of_nonneg_right (show i+1<=i' by lia) ht;rw[ahf,Int.one_mul] at this;lia
 have:=rf (xs:=tb.map λr=>r.1.1 * t+r.1.2) (ys:=(Y1 (e * t).toNat).map λn:Nat=>(n:Int)) ?_ ?_
 .rw[Yw,Yw,YQ] at this;have:=abb he ht;lia
 .have hn:=h.1;unfold List.Nodup at hn ⊢;rw[afn] at hn ⊢;refine hn.imp_of_mem λ{a b} ha hb a7 q=>a7 ?_;obtain⟨⟨a1,a2⟩,a3,a4⟩:=h.2 a ha;obtain⟨⟨b1,b2⟩,b3,b4⟩:=h.2 b hb;rcases Int.lt_trichotomy a.1.1 b.1.1 with c|c|c
  .have:=z c a4 b3;lia
  .rw[c] at q;exact Prod.ext c (by lia)
  .have:=z c b4 a3;lia
 .intro x hx;obtain⟨r,hr,rfl⟩:=YO.mp hx;obtain⟨⟨a1,a2⟩,a3,a4⟩:=h.2 r hr;have q:=z a2 a4 (ZJ 0);have q0:=abb a1 ht;exact YO.mpr ⟨(r.1.1 * t+r.1.2).toNat,ZK.mpr (by lia),by lia⟩
end Gz
namespace zv
open PySem L2 Gz
local macro_rules | `(tactic| walk_at "d") => `(tactic| dsimp only [seval, Nat.reduceAdd, Nat.reduceSub, ↓reduceIte, tL, B2, wO, mv, B8, wz, tC, B0, BY, tO, cJ, wY, wV, tY, tZ, BN, BO, tB, BQ, BR, BS, BU, BV, BW, BX, BZ, rI, fQ, rU, Ca, Cb, Mr, Ms, Mt, Mu, Mv, Ml, Mm, Mn, Mo, Mp, Mq, ite_tt, ite_ff, L2.start, Mw, Mx, List.map_cons, List.map_nil, List.length_cons, List.length_nil, List.replicate, List.nil_append, List.cons_append, List.getElem?_cons_zero, List.getElem?_cons_succ, List.set_cons_zero, List.set_cons_succ, Bool.not_true, Bool.not_false, Cp, Cq, CO, LH, CP, My, Mz, MA, xm, uv, El, xn, wD, wC, xl, B5, CK, xY, wG, wF, NY, NZ, Cm, Cn, wW, Cr, CF, CB, CC, CL, CQ, NO, NP, NQ, wQ, Dp, xJ, xN, xR, GL, R0, R6, R7, R8, R9, Sa, Sb, Sd, Se, Sf, Sg, Sm, Sh, Si, Sj, Sk, Sl, q9, vm, zi, zj, GO, o9, GU, GV, Sr, Ss, Su, Sv, Sw, Sx, Sy, Sz, SA, GR, SD, SE, SF, GW, GX, GY, GZ, G0, G2, G4, G5, uE, uF, E7, yn, OS, EE, EF, E4, FA, LQ, mY, mZ, dM, kH, GI, FN, Qo, FL, yN, Qq, FY, Ga, Qm, G9, Rp, y7])
local macro_rules | `(tactic| walk_at "s") => `(tactic| simp only [seval, Nat.reduceAdd, Nat.reduceSub, reduceCtorEq, ↓reduceIte, ite_tt, ite_ff, List.map_cons, List.map_nil, List.length_cons, List.length_nil, List.nil_append, List.cons_append, Option.some.injEq, V.int.injEq, V.bl.injEq, V.ref.injEq, List.cons.injEq, exists_eq_left, exists_eq_left', exists_and_left, true_and, and_true, decide_eq_true_eq, Nat.zero_add, Nat.sub_self, Nat.add_one_sub_one, decide_true, decide_false, Bool.not_eq_true', decide_eq_false_iff_not, false_and, exists_false, and_assoc, not_false_eq_true, not_true_eq_false, List.append_nil, Option.join_some])
local macro_rules | `(tactic| walk_at "p") => `(tactic| first | (walk_at "d"; repeat (first | walk_at "s" | walk_at "d")) | (walk_at "s"; repeat (first | walk_at "d" | walk_at "s")))
local macro_rules | `(tactic| walk_at "g") => `(tactic| try walk_at "p")
local macro_rules|`(tactic|rfl')=>`(tactic|walk_at "g")
local macro_rules | `(tactic| walk_at "c") => `(tactic| (refine ⟨⟨rfl, rfl, rfl, by decide +kernel, rfl, by decide +kernel, by decide +kernel⟩, fun _ _ _ _ _ _ _ _ => ?_⟩; (repeat (refine SH fun _ => ?_)); exact SJ rfl))
inductive dI(H:Hp)(v:V)(m:Mk):Prop
 | mk(t p:YN)(_:v = .ref t)(_:H t=some (.tup [.int m.1,.ref p]))(_:H p=some (.tup [ev m.2.1,ev m.2.2]))
theorem dI.same(h:dI H v m)(s:ak H H'):dI H' v m:=let ⟨t,p,e,a,b⟩:=h;⟨t,p,e,s _ _ a,s _ _ b⟩
def top(i:Nat):aaA:=PySem.Challenge.pw_gaze_k74_drawings.main.body.getD i (.Pass ⟨0,0,0,0⟩)
abbrev zw:aaA:=top 8
abbrev zx:aaA:=top 9
abbrev zy:aaA:=top 10
abbrev zz:aaA:=top 11
abbrev zA:aaA:=top 12
abbrev zB:aaA:=top 13
abbrev zC:aaA:=top 14
abbrev zD:aaA:=top 15
abbrev zE:aaA:=top 17
abbrev zF:aaA:=top 19
abbrev zG:aaA:=top 20
abbrev zH:aaA:=top 21
abbrev zI:aaA:=top 22
abbrev zJ:aaA:=top 23
abbrev zK:aaA:=top 24
abbrev zL:aaA:=top 25
abbrev zM:aaA:=top 26
abbrev zN:aaA:=top 27
abbrev zO:aaA:=top 29
abbrev zP:aaA:=top 30
abbrev zQ:aaA:=top 31
abbrev zR:aaA:=top 32
abbrev zS:aaA:=top 33
abbrev zT:aaA:=top 35
abbrev zU:aaA:=top 36
abbrev zV:aaA:=top 37
abbrev zW:aaA:=top 38
abbrev zX:aaA:=top 39
abbrev zY:aaA:=top 41
abbrev zZ:aaA:=top 42
abbrev z4:aaA:=top 44
abbrev z5:aaA:=top 45
abbrev z6:aaA:=top 46
abbrev z7:aaA:=inClass (top 50) 0
abbrev z8:aaA:=inClass (top 50) 1
abbrev z9:aaA:=inClass (top 50) 2
abbrev Aa:aaA:=inClass (top 50) 3
abbrev Ab:aaA:=inClass (top 50) 4
abbrev Ac:aaA:=inClass (top 50) 6
abbrev Ad:aaA:=inClass (top 50) 10
abbrev Ae:aaA:=inClass (top 50) 11
abbrev Af:aaA:=top 52
abbrev Ag:aaA:=top 53
abbrev Ah:aaA:=top 54
abbrev Ai:aaA:=top 55
abbrev Aj:aaA:=top 56
abbrev Ak:aaA:=top 57
abbrev Al:aaA:=top 59
abbrev Am:aaA:=top 60
abbrev An:aaA:=top 61
abbrev Ao:aaA:=top 62
abbrev Ap:aaA:=top 63
abbrev Aq:aaA:=top 64
abbrev Ar:aaA:=top 65
abbrev As:aaA:=top 66
abbrev Au:aaA:=top 67
abbrev Av:aaA:=top 68
abbrev Aw:aaA:=top 69
abbrev Ax:aaA:=top 70
abbrev Ay:aaA:=top 71
abbrev Az:aaA:=top 72
abbrev AA:aaA:=top 73
abbrev AB:aaA:=top 74
abbrev AD:aaA:=top 75
abbrev AE:aaA:=top 76
abbrev AF:aaA:=top 77
abbrev AG:aaA:=top 78
abbrev AH:aaA:=top 79
abbrev AI:aaA:=top 80
abbrev AJ:aaA:=top 81
abbrev AK:aaA:=top 82
abbrev AL:aaA:=top 83
theorem Ha:Sc ["lo","hi"] ["lo","hi"] zw:=by walk_at "c"
theorem Hb:Sc ["one","number"] ["one","number"] zx:=by walk_at "c"
theorem vt:Sc ["one","other","lo","hi"] ["one","other"] zy:=by walk_at "c"
theorem rm:Sc ["some","whole","one"] ["some"] zz:=by walk_at "c"
theorem pw:Sc ["some","los","his","lo","hi"] ["some"] zA:=by walk_at "c"
theorem Hc:Sc ["one"] ["one"] zB:=by walk_at "c"
theorem Hd:Sc ["one","later"] ["one","later"] zC:=by walk_at "c"
theorem vx:Sc ["some","rising","one"] ["some"] zD:=by walk_at "c"
theorem He:Sc ["cell"] ["cell"] zE:=by walk_at "c"
theorem vy:Sc ["one","step","lo","hi"] ["one","step"] zF:=by walk_at "c"
theorem nq:Sc ["boxes","steps","kept","turn","box","left"] ["boxes","steps"] zG:=by walk_at "c"
theorem Hf:Sc ["marks","turn"] ["marks","turn"] zH:=by walk_at "c"
theorem vz:Sc ["steps","marks","forth","backward"] ["steps","marks"] zI:=by walk_at "c"
theorem pA:Sc ["steps","marks","boxes","course","step","box"] ["steps","marks"] zJ:=by walk_at "c"
theorem Hg:Sc ["one","other"] ["one","other"] zK:=by walk_at "c"
theorem Hh:Sc ["one","by"] ["one","by"] zL:=by walk_at "c"
theorem nr:Sc ["steps","marks","tops","number","mark","turn"] ["steps","marks"] zM:=by walk_at "c"
theorem rn:Sc ["tops","marks","number","mark","top"] ["tops","marks"] zN:=by walk_at "c"
theorem Hi:Sc ["board","kind","turn"] ["board","kind","turn"] zO:=by walk_at "c"
theorem AM:Sc ["board","claim","part"] ["board","claim"] zP:=by walk_at "c"
theorem Hj:Sc ["claim","kind","turn"] ["claim","kind","turn"] zQ:=by walk_at "c"
theorem AN:Sc ["board","claim","own"] ["board","claim"] zR:=by walk_at "c"
theorem Hk:Sc ["board","claim"] ["board","claim"] zS:=by walk_at "c"
theorem Hl:Sc ["board","eye"] ["board","eye"] zT:=by walk_at "c"
theorem Hm:Sc ["board","some"] ["board","some"] zU:=by walk_at "c"
theorem Hn:Sc ["board"] ["board"] zV:=by walk_at "c"
theorem ku:Sc ["steps","groups","found","name","marks","tops","beside","others","pair"] ["steps","groups"] zW:=by walk_at "c"
theorem rq:Sc ["eyes","some","eye"] ["eyes"] zX:=by walk_at "c"
theorem rA:Sc ["board","steps","asides","found"] ["board"] zY:=by walk_at "c"
theorem Ho:Sc ["board","turn"] ["board","turn"] zZ:=by walk_at "c"
theorem Hq:Sc ["some","number"] ["some","number"] z4:=by walk_at "c"
theorem AO:Sc ["turn","some","low","high","signs"] ["turn","some","low","high"] z5:=by walk_at "c"
theorem Hr:Sc ["board","low","high"] ["board","low","high"] z6:=by walk_at "c"
theorem Hs:Sc ["self","eyes","turns","up","down","most"] ["self","eyes","turns","up","down","most"] z7:=by walk_at "c"
theorem Ht:Sc ["self","eye"] ["self","eye"] z8:=by walk_at "c"
theorem Hu:Sc ["self","turn"] ["self","turn"] z9:=by walk_at "c"
theorem Hv:Sc ["self","eye","turn","lo","hi"] ["self","eye","turn","lo","hi"] Aa:=by walk_at "c"
theorem Hw:Sc ["self","eye","turn"] ["self","eye","turn"] Ab:=by walk_at "c"
theorem Hy:Sc ["self"] ["self"] Ac:=by walk_at "c"
theorem Hz:Sc ["self","eye","turn"] ["self","eye","turn"] Ad:=by walk_at "c"
theorem HC:Sc ["self","eye","turn"] ["self","eye","turn"] Ae:=by walk_at "c"
theorem HD:Sc ["pairs","eye"] ["pairs","eye"] Af:=by walk_at "c"
theorem HE:Sc ["pair"] ["pair"] Ag:=by walk_at "c"
theorem rB:Sc ["pairs","most","eye","others"] ["pairs","most"] Ah:=by walk_at "c"
theorem HF:Sc ["pairs","eye","most"] ["pairs","eye","most"] Ai:=by walk_at "c"
theorem nu:Sc ["pairs","most","one","other","first","second"] ["pairs","most"] Aj:=by walk_at "c"
theorem nv:Sc ["board","claim","steps","goals","marks","pairs","aside"] ["board","claim"] Ak:=by walk_at "c"
theorem HG:Sc ["_law_script","_law_k","_law_prime","_law_many"] ["_law_script","_law_k","_law_prime","_law_many"] Al:=by walk_at "c"
theorem AQ:Sc ["_law_script","_law_great"] ["_law_script"] Am:=by walk_at "c"
theorem HH:Sc ["_law_found"] ["_law_found"] An:=by walk_at "c"
theorem HI:Sc ["_law_span","_law_number"] ["_law_span","_law_number"] Ao:=by walk_at "c"
theorem gb:Sc ["_law_script","_law_sort","_law_eyes","_law_turns","_law_unit","_law_ups","_law_downs"] ["_law_script"] Ap:=by walk_at "c"
theorem rC:Sc ["_law_script","_law_shape_here","_law_base_here","_law_course","_law_turn","_law_step"] ["_law_script","_law_shape_here","_law_base_here"] Aq:=by walk_at "c"
theorem ny:Sc ["_law_script","_law_k","_law_number","_law_unit","_law_lo","_law_hi","_law_open_end"] ["_law_script","_law_k","_law_number","_law_unit"] Ar:=by walk_at "c"
theorem iJ:Sc ["_law_script","_law_shape_here","_law_course","_law_words","_law_wrong","_law_eye","_law_turn","_law_k","_law_number","_law_silent"] ["_law_script","_law_shape_here","_law_course"] As:=by walk_at "c"
theorem vA:Sc ["_law_world_here","_law_board_here","_law_spot_here"] ["_law_world_here"] Au:=by walk_at "c"
theorem HJ:Sc ["_law_world_here","_law_course"] ["_law_world_here","_law_course"] Av:=by walk_at "c"
theorem AR:Sc ["_law_world_here","_law_course","_law_turn"] ["_law_world_here","_law_course"] Aw:=by walk_at "c"
theorem nz:Sc ["_law_begin","_law_claim","_law_sort","_law_turn","_law_lo","_law_hi","_law_part"] ["_law_begin","_law_claim","_law_sort","_law_turn"] Ax:=by walk_at "c"
theorem HK:Sc ["_law_span"] ["_law_span"] Ay:=by walk_at "c"
theorem AS:Sc ["_law_steps","_law_one","_law_other","_law_up"] ["_law_steps","_law_one","_law_other"] Az:=by walk_at "c"
theorem HL:Sc ["_law_world_here","_law_goals","_law_spot_here","_law_aside"] ["_law_world_here","_law_goals","_law_spot_here","_law_aside"] AA:=by walk_at "c"
theorem HM:Sc ["_law_world_here","_law_steps","_law_goals","_law_paper","_law_eye","_law_aside"] ["_law_world_here","_law_steps","_law_goals","_law_paper","_law_eye","_law_aside"] AB:=by walk_at "c"
theorem vB:Sc ["_law_world_here","_law_steps","_law_goals","_law_paper","_law_aside","_law_one","_law_other"] ["_law_world_here","_law_steps","_law_goals","_law_paper","_law_aside"] AD:=by walk_at "c"
theorem pB:Sc ["_law_world_here","_law_steps","_law_goals","_law_paper","_law_aside","_law_spans"] ["_law_world_here","_law_steps","_law_goals","_law_paper","_law_aside"] AE:=by walk_at "c"
theorem rD:Sc ["_law_world_here","_law_claim","_law_paper","_law_own","_law_steps","_law_goals"] ["_law_world_here","_law_claim","_law_paper"] AF:=by walk_at "c"
theorem pC:Sc ["_law_script","_law_board_here","_law_world_here","_law_course","_law_turn","_law_ends","_law_span"] ["_law_script","_law_board_here","_law_world_here","_law_course"] AG:=by walk_at "c"
theorem nA:Sc ["_law_turn","_law_spans","_law_low_here","_law_high","_law_row_here","_law_number"] ["_law_turn","_law_spans","_law_low_here","_law_high"] AH:=by walk_at "c"
theorem pE:Sc ["_law_script","_law_k","_law_board_here","_law_world_here","_law_low_here","_law_rows","_law_turn","_law_at","_law_claim","_law_found"] ["_law_script","_law_k","_law_board_here","_law_world_here","_law_low_here","_law_rows"] AI:=by walk_at "c"
theorem vC:Sc ["_law_script","_law_board_here","_law_world_here","_law_low_here","_law_high","_law_rows","_law_turn","_law_due"] ["_law_script","_law_board_here","_law_world_here","_law_low_here","_law_high","_law_rows"] AJ:=by walk_at "c"
theorem rE:Sc ["_law_board_here","_law_low_here","_law_high","_law_caught","e"] ["_law_board_here","_law_low_here","_law_high"] AK:=by walk_at "c"
theorem gT:Sc ["_law_script","_law_shape_here","_law_course","_law_world_here","_law_board_here","_law_low_here","_law_high","_law_rows","_law_kept","_law_spot_here"] ["_law_script"] AL:=by walk_at "c"
set_option genInjectivity false
set_option genSizeOf false
structure Tx(K:Yu)(mg:Str->Option YB) where
 rF:Fn K mg "is_crossed" zw ["lo","hi"]
 rG:Fn K mg "holds" zx ["one","number"]
 rH:Fn K mg "meet" zy ["one","other"]
 rJ:Fn K mg "common" zz ["some"]
 rK:Fn K mg "hull" zA ["some"]
 nB:Fn K mg "by_lo" zB ["one"]
 rL:Fn K mg "leaves_gap" zC ["one","later"]
 rM:Fn K mg "gathered" zD ["some"]
 rN:Fn K mg "number_in" zE ["cell"]
 rO:Fn K mg "moved" zF ["one","step"]
 rP:Fn K mg "narrowed" zG ["boxes","steps"]
 rQ:Fn K mg "stretches_at" zH ["marks","turn"]
 rR:Fn K mg "tube" zI ["steps","marks"]
 rS:Fn K mg "course_in" zJ ["steps","marks"]
 rT:Fn K mg "lesser" zK ["one","other"]
 rV:Fn K mg "lifted" zL ["one","by"]
 rW:Fn K mg "ceilings" zM ["steps","marks"]
 rX:Fn K mg "crossing" zN ["tops","marks"]
 rY:Fn K mg "has_part" zO ["board","kind","turn"]
 iK:Fn K mg "check_claim" zP ["board","claim"]
 rZ:Fn K mg "stretches_of" zQ ["claim","kind","turn"]
 lG:Fn K mg "paces" zR ["board","claim"]
 lH:Fn K mg "wanted" zS ["board","claim"]
 sd:Fn K mg "marks_of" zT ["board","eye"]
 se:Fn K mg "marks_without" zU ["board","some"]
 sf:Fn K mg "groups_of" zV ["board"]
 si:Fn K mg "clashes" zW ["steps","groups"]
 sk:Fn K mg "choices" zX ["eyes"]
 sm:Fn K mg "tubes" zY ["board"]
 lJ:Fn K mg "places" zZ ["board","turn"]
 so:Fn K mg "sign_of" z4 ["some","number"]
 sq:Fn K mg "row_of" z5 ["turn","some","low","high"]
 lK:Fn K mg "drawing" z6 ["board","low","high"]
 nC:Fm K "__init__" "Board.__init__" z7 ["self","eyes","turns","up","down","most"]
 lM:Fm K "has_eye" "Board.has_eye" z8 ["self","eye"]
 gU:Fm K "has_turn" "Board.has_turn" z9 ["self","turn"]
 lN:Fm K "tell" "Board.tell" Aa ["self","eye","turn","lo","hi"]
 lO:Fm K "hush" "Board.hush" Ab ["self","eye","turn"]
 kx:Fm K "tellings" "Board.tellings" Ac ["self"]
 lP:Fm K "check_spot" "Board.check_spot" Ad ["self","eye","turn"]
 lQ:Fm K "check_word" "Board.check_word" Ae ["self","eye","turn"]
 iL:Fn K mg "without" Af ["pairs","eye"]
 lR:Fn K mg "eyes_of" Ag ["pair"]
 iM:Fn K mg "put_aside" Ah ["pairs","most"]
 gV:Fn K mg "branch" Ai ["pairs","eye","most"]
 gW:Fn K mg "paper" Aj ["pairs","most"]
 x_ask:Fn K mg "ask" Ak ["board","claim"]
 su:Fn K mg "_law_draw" Al ["_law_script","_law_k","_law_prime","_law_many"]
 sx:Fn K mg "_law_base" Am ["_law_script"]
 lS:Fn K mg "_law_whole" An ["_law_found"]
 sy:Fn K mg "_law_within" Ao ["_law_span","_law_number"]
 sA:Fn K mg "_law_shape" Ap ["_law_script"]
 sC:Fn K mg "_law_true_course" Aq ["_law_script","_law_shape_here","_law_base_here"]
 sD:Fn K mg "_law_word" Ar ["_law_script","_law_k","_law_number","_law_unit"]
 sE:Fn K mg "_law_world" As ["_law_script","_law_shape_here","_law_course"]
 sF:Fn K mg "_law_board" Au ["_law_world_here"]
 sG:Fn K mg "_law_liars" Av ["_law_world_here","_law_course"]
 sH:Fn K mg "_law_fits" Aw ["_law_world_here","_law_course"]
 sI:Fn K mg "_law_common" Ax ["_law_begin","_law_claim","_law_sort","_law_turn"]
 iN:Fn K mg "_law_empty" Ay ["_law_span"]
 lT:Fn K mg "_law_climb" Az ["_law_steps","_law_one","_law_other"]
 iO:Fn K mg "_law_mark" AA ["_law_world_here","_law_goals","_law_spot_here","_law_aside"]
 gX:Fn K mg "_law_branch" AB ["_law_world_here","_law_steps","_law_goals","_law_paper","_law_eye","_law_aside"]
 ky:Fn K mg "_law_clash" AD ["_law_world_here","_law_steps","_law_goals","_law_paper","_law_aside"]
 gF:Fn K mg "_law_refuted" AE ["_law_world_here","_law_steps","_law_goals","_law_paper","_law_aside"]
 sJ:Fn K mg "_law_refutes" AF ["_law_world_here","_law_claim","_law_paper"]
 sL:Fn K mg "_law_low" AG ["_law_script","_law_board_here","_law_world_here","_law_course"]
 sM:Fn K mg "_law_row" AH ["_law_turn","_law_spans","_law_low_here","_law_high"]
 sN:Fn K mg "_law_spot" AI ["_law_script","_law_k","_law_board_here","_law_world_here","_law_low_here","_law_rows"]
 sO:Fn K mg "_law_drawn" AJ ["_law_script","_law_board_here","_law_world_here","_law_low_here","_law_high","_law_rows"]
 sP:Fn K mg "_law_refused" AK ["_law_board_here","_law_low_here","_law_high"]
 nD:Fn K mg "law" AL ["_law_script"]
 HN:mg "all" = none
 AU:mg "any" = none
 SU:mg "bool" = none
 vD:mg "enumerate" = none
 SV:mg "int" = none
 kz:mg "isinstance" = none
 cp:mg "len" = none
 pF:mg "list" = none
 HP:mg "max" = none
 vE:mg "min" = none
 dt:mg "range" = none
 SW:mg "reversed" = none
 HQ:mg "set" = none
 AV:mg "sorted" = none
 vF:mg "str" = none
 HR:mg "sum" = none
 HS:mg "tuple" = none
 SX:mg "zip" = none
 nE:YN
 SY:mg "GazeError" = some (.ref nE)
 cX:YN
 HU:mg "NoStretch" = some (.ref cX)
 lU:YN
 AW:mg "NoBoard" = some (.ref lU)
 jz:YN
 AX:mg "NoTelling" = some (.ref jz)
 gd:YN
 AY:mg "NoClaim" = some (.ref gd)
 aL:YN
 S9:mg "Board" = some (.ref aL)
 bI:fv K aL
 pG:fR K aL "eyes"
 nF:fR K aL "turns"
 vG:fR K aL "up"
 vH:fR K aL "down"
 pH:fR K aL "most"
 lV:fR K aL "told"
 AZ:Mk K aL nC.a
 Tc:Meth K aL "has_eye" lM.a
 sQ:Meth K aL "has_turn" gU.a
 Td:Meth K aL "tell" lN.a
 Te:Meth K aL "hush" lO.a
 HV:Meth K aL "tellings" kx.a
 Tf:Meth K aL "check_spot" lP.a
 Tg:Meth K aL "check_word" lQ.a
 sR:XC K lU
 sS:XC K jz
 vI:XC K gd
 sT:XC K cX
 Th:ac3 K (.ref cX) (.ref cX)=some true
 Ti:ZC K (.ref cX) (.ref nE)=some true
 Tj:ZC K (.ref cX) (.ref gd)=some false
 Tn:∃ t,mg "EYES_AT_MOST" = some (.int 7 t)
 To:∃ t,mg "TURNS_AT_MOST" = some (.int 12 t)
set_option genInjectivity true
set_option genSizeOf true
section
seal L2.PE L2.PS L2.aR L2.PA
inductive Tp(vs:List V)(H:Hp)(Q:VK)(aQ:XK):Prop
 | mk(v:V)(_:vs=[v])(_:(v = .non ∨ ∃ i,v = .int i))(_:Q (.bl (isWhole v)) H)
theorem vJ(T:Tx K mg):Ok P w base 1 T.lS Tp:=by
 refine aY HH ?_;rintro _ _ _ _ _ _ _ _ _ ⟨v,rfl,hv,q⟩;refine⟨_,(au (aA (dQ (a9 mC (by rfl) T.kz jM (ae (aa 0) (ae (mh (v:=.ty "int") rfl T.SV Mg rfl) ag))) (eS (vq (a9 mC (by rfl) T.kz jM (ae (aa 0) (ae (mh (v:=.ty "bool") rfl T.SU Mh rfl) ag)))))))),?_⟩;rcases hv with rfl|⟨i,rfl⟩
 .rfl';exact q
 .rfl';exact q
inductive Tq(vs:List V)(H:Hp)(Q:VK)(aQ:XK):Prop
 | mk(a b:En)(_:vs=[ev a,ev b])(_:Q (.bl (aO a b)) H)
theorem vK(T:Tx K mg):Ok P w base 1 T.rF Tq:=by
 refine aY Ha ?_;rintro _ _ _ _ _ _ _ _ _ ⟨a,b,rfl,q⟩;refine⟨_,(au (aA (dQ (iV (mi (aa 0))) (dQ (iV (mi (aa 1))) (eS (eV (jx nZ) (aa 0) (aa 1) (cO _))))))),?_⟩;rcases a with _|x
 .rfl';exact q
 rcases b with _|y
 .rfl';exact q
 rfl';exact q
inductive Tr(vs:List V)(H:Hp)(Q:VK)(aQ:XK):Prop
 | mk(v:V)(a b:En)(n:Int)(_:vs=[v,.int n])(_:aG H v a b)(_:Q (.bl (hold a b n)) H)
theorem Ts(T:Tx K mg):Ok P w base 2 T.rG Tr:=by
 refine aY Hb ?_;rintro _ _ _ _ _ _ _ _ hr ⟨v,a,b,n,rfl,⟨p,rfl,hp⟩,q⟩;refine⟨_,(au (aA (dQ (vq (aE (vK T) hr (ae (aw (aa 0) af) (ae (aa 1) ag)))) (eS (vq (aE (vK T) hr (ae (aa 1) (ae (aw (aa 0) af) ag)))))))),?_⟩;rfl';refine aq (aj.of hp) rfl ⟨a,some n,rfl,?_⟩;unfold hold at q;rfl';cases hc:aO a (some n) with
 | true =>
  rw[hc] at q;rfl';exact q
 | false =>
  rw[hc] at q;rfl';refine aq (aj.of hp) rfl ⟨some n,b,rfl,?_⟩;rfl';exact q
inductive Tt(vs:List V)(H:Hp)(Q:VK)(aQ:XK):Prop
 | mk(v u:V)(a b c d:En)(_:vs=[v,u])(_:aG H v a b)(_:aG H u c d)(_:∀ x H',ak H H'->Em H' x (di a c) (dj b d)->Q x H')
theorem A0(T:Tx K mg):Ok P w base 2 T.rH Tt:=by
 refine aY vt ?_;rintro _ _ _ _ H _ Q _ hr ⟨v,u,a,b,c,d,rfl,⟨p,rfl,hp⟩,⟨r,rfl,bQ⟩,q⟩;refine⟨_,(ar (aI 2 vt.nd (NA rfl rfl T.HP (cN (bC.mk (fr:=[]) (ys:=[]) rfl (by decide +kernel) rfl (by decide +kernel) rfl rfl .nil .nil (by decide) rfl) rfl (tR (bb (ae (aw (aa 0) af) (ae (aw (aa 1) af) ag)))) (λC s2 H2 ex pn=>⟨(gN (fc (aa 0))),(aa 0)⟩)) bJ))
  (ar (aI 3 vt.nd (ND rfl rfl T.vE (cN (bC.mk (fr:=[]) (ys:=[]) rfl (by decide +kernel) rfl (by decide +kernel) rfl rfl .nil .nil (by decide) rfl) rfl (tR (bb (ae (aw (aa 0) af) (ae (aw (aa 1) af) ag)))) (λC s2 H2 ex pn=>⟨(gN (fc (aa 0))),(aa 0)⟩)) bJ))
  (ar (aJ (cy (aE (vK T) hr (ae (aa 2) (ae (aa 3) ag)))) (au (aA bJ)) aK)
  (au (aA (bb (ae (aa 2) (ae (aa 3) ag)))))))),?_⟩
 rfl';refine aq (aj.of hp) rfl (aq (aj.of bQ) rfl ?_);rfl';refine⟨br,λt ht=>⟨⟨_,aj.of az⟩,Eo az (λx H Q h=>?_) (λx H Q h=>?_) λl hl=>?_⟩⟩
 .rfl';exact GK (Q:=λk=>Q k H) h
 .rfl';exact h
 refine⟨l,rfl,nums a c,ah.of az,?_⟩;rw[Oi];have s2:=(ax (o:=.tup [ev a,ev c]) ht).trans (ax (o:=.lst ((nums a c).map V.int)) hl);generalize upd (upd H t (.tup [ev a,ev c])) l (.lst ((nums a c).map V.int))=H2 at s2 ⊢;refine aq (aj.of (s2 _ _ hp)) rfl (aq (aj.of (s2 _ _ bQ)) rfl ?_);rfl';refine⟨br,λt' Tu=>⟨⟨_,aj.of az⟩,Eo az (λx H Q h=>?_) (λx H Q h=>?_) λl' pY=>?_⟩⟩
 .rfl';exact GK (Q:=λk=>Q k H) h
 .rfl';exact h
 refine⟨l',rfl,nums b d,ah.of az,?_⟩;rw[Oj];have s3:=s2.trans ((ax (o:=.tup [ev b,ev d]) Tu).trans (ax (o:=.lst ((nums b d).map V.int)) pY));generalize upd (upd H2 t' (.tup [ev b,ev d])) l' (.lst ((nums b d).map V.int))=H3 at s3 ⊢;refine⟨_,_,rfl,?_⟩;cases hc:aO (di a c) (dj b d) with
 | true =>
  rfl';exact q _ _ s3 ⟨λ_=>rfl,λz=>nomatch hc.symm.trans z⟩
 | false =>
  rfl';exact⟨br,λp' dP=>q _ _ (s3.trans (ax dP)) ⟨λz=>(nomatch hc.symm.trans z),λ_=>aG.new⟩⟩
inductive Tv(K:Yu)(vs:List V)(H:Hp)(Q:VK)(aQ:XK):Prop
 | mk(a:YN)(xs:List V)(as:List S2)(_:vs=[.ref a])(_:ah K H a xs)(_:xs.length<=Y0)(_:aP H xs as)(_:∀ v H',ak H H'->yi H' v as->Q v H')
theorem Tw(T:Tx K mg):Ok P w base 1 T.rK (Tv K):=by
 refine aY pw ?_;rintro _ _ _ s H _ Q _ _ ⟨a,xs,as,rfl,hS,hz,hs,q⟩;refine⟨_,(ar (aJ (b9 (a9 cK (by rfl) T.cp cf (ae (aa 0) ag)) af) (au (aA bJ)) aK)
  (ar (jU (i:=1) (bC.mk (fr:=[]) (ys:=[]) rfl (by decide +kernel) rfl (by decide +kernel) rfl rfl .nil .nil (by decide) rfl) rfl pw.nd rfl rfl (cC (aa 0)) (λC s2 H2 ex pn=>⟨cQ,(cz (K:=K) (aa 0) af)⟩))
  (ar (jU (i:=2) (bC.mk (fr:=[]) (ys:=[]) rfl (by decide +kernel) rfl (by decide +kernel) rfl rfl .nil .nil (by decide) rfl) rfl pw.nd rfl rfl (cC (aa 0)) (λC s2 H2 ex pn=>⟨cQ,(cz (K:=K) (aa 0) af)⟩))
  (ar (aI 3 pw.nd (jG (iZ w6 bJ (aa 1) (by with_unfolding_all rfl)) bJ (a9 (NF rfl) (by rfl) T.vE ue (ae (aa 1) ag))))
  (ar (aI 4 pw.nd (jG (iZ w6 bJ (aa 2) (by with_unfolding_all rfl)) bJ (a9 (NB rfl) (by rfl) T.HP CY (ae (aa 2) ag))))
  (au (aA (bb (ae (aa 3) (ae (aa 4) ag)))))))))),?_⟩
 have hl:=hs.len;rfl';refine⟨_,dO hS,?_⟩;split
 .rename_i h0;have e:as=[]:=Z1.mp (by lia);exact q _ _ (ak.refl H) ⟨λ_=>rfl,λz=>absurd e z⟩
 rename_i h0;have a7:as≠[]:=λz=>h0 (by rw[z] at hl;simp[hl]);refine⟨⟨_,hS⟩,bS fA hz (oq (p:=λ_=>true) (f:=uI H) hS (λx _ Q h=>?_) (λx hx _ Q h=>?_) ?_)⟩
 .rfl';exact h
 .rfl';obtain⟨t,_,ht⟩:=hs.mem hx;have e:=ht.fst;obtain⟨p,rfl,hp⟩:=ht;rw[e] at h;exact aq (aj.of hp) rfl h
 rw[YY,filter_all,hs.fst];intro l1 h1;have s1:=ax (o:=.lst (as.map λs=>ev s.1)) h1;have L1:upd H l1 (.lst (as.map λs=>ev s.1)) l1=some (.lst ((as.map (·.1)).map ev)):=by rw[az,ZG];rfl
 generalize upd H l1 (.lst (as.map λs=>ev s.1))=H1 at s1 L1 ⊢;have lz:=hs.same s1;rfl';refine⟨⟨_,s1.seq hS⟩,bS fA hz (oq (p:=λ_=>true) (f:=uJ H1) (s1.seq hS) (λx _ Q h=>?_) (λx hx _ Q h=>?_) ?_)⟩
 .rfl';exact h
 .rfl';obtain⟨t,_,ht⟩:=lz.mem hx;have e:=ht.snd;obtain⟨p,rfl,hp⟩:=ht;rw[e] at h;exact aq (aj.of hp) rfl h
 rw[YY,filter_all,lz.snd];intro l2 h2;have s2:=ax (o:=.lst (as.map λs=>ev s.2)) h2;have L2:upd H1 l2 (.lst (as.map λs=>ev s.2)) l2=some (.lst ((as.map (·.2)).map ev)):=by rw[az,ZG];rfl
 generalize upd H1 l2 (.lst (as.map λs=>ev s.2))=H2 at s2 L2 ⊢;have HW:=s2 _ _ L1;have sU:=s1.trans s2;have fin:∀ lo hi,gO (as.map (·.1)) lo->jk (as.map (·.2)) hi->2<=Y0/\∀ p,H2 p=none->Q (.ref p) (upd H2 p (.tup [ev lo,ev hi])):=λlo hi a b =>
  ⟨br,λp hp=>q _ _ (sU.trans (ax hp)) ⟨λz=>absurd z a7,λ_=>⟨lo,hi,aG.new,a,b⟩⟩⟩
 have n1:as.map (·.1)≠[]:=by simpa using a7
 have n2:as.map (·.2)≠[]:=by simpa using a7
 rfl';refine⟨l1,_,rfl,.inl (ah.of HW),rfl,yg _,?_⟩;rw[if_neg (by decide),yf];rfl';have part:∀ lo,gO (as.map (·.1)) lo->t6 K false .non (.ref l2) H2 (λz H1=>∃ k,z = .bl k/\if k=true then 2<=Y0/\∀ p,H1 p=none->Q (.ref p) (upd H1 p (.tup [ev lo,.non])) else ∃ x,ah K H1 l2 (x.map V.int)/\x≠[]/\2<=Y0/\∀ p,H1 p=none->Q (.ref p) (upd H1 p (.tup [ev lo,.int (jf x)]))):=λlo HX=>by
  refine⟨l2,_,rfl,.inl (ah.of L2),rfl,yg _,_,rfl,?_⟩;simp only[Y5,↓reduceIte];rw[yf];by_cases hn:(none:En)∈as.map (·.2)
  .rw[decide_eq_true hn,if_pos rfl];exact fin lo none HX (uL hn)
  .rw[decide_eq_false hn,if_neg (by decide)];exact⟨_,ah.of (by rw[L2,yh hn]),Es hn n2,fin lo _ HX (Eu hn n2)⟩
 split
 .rename_i hn;exact part none (uK hn)
 .rename_i hn;exact⟨_,ah.of (by rw[HW,yh hn]),Es hn n1,part _ (Et hn n1)⟩
inductive HY(vs:List V)(H:Hp)(Q:VK)(aQ:XK):Prop
 | mk(v:V)(s:S2)(_:vs=[v])(_:aG H v s.1 s.2)(_:∀ p,H p=none->Q (.ref p) (upd H p (.tup ((cR s.1).map V.int))))
theorem Tz(T:Tx K mg):Ok P w base 1 T.nB HY:=by
 refine aY Hc ?_;rintro _ _ _ _ _ _ _ _ _ ⟨v,⟨a,b⟩,rfl,⟨p,rfl,hp⟩,q⟩;refine⟨_,(ar (aJ (dq (aw (aa 0) af)) (au (aA (bb (ae af (ae af ag))))) aK)
  (au (aA (bb (ae af (ae (aw (aa 0) af) ag)))))),?_⟩
 rfl';refine aq (aj.of hp) rfl ?_;rcases a with _|x
 .rfl';exact⟨br,q⟩
 .rfl';refine aq (aj.of hp) rfl ?_;rfl';exact⟨br,q⟩
theorem HZ:∀ {xs:List V} {as:List S2} {ks:List V} {kis:List (List Int)} {H:Hp} {Q:List V->Hp->Prop},aP H xs as->b6 K H ks kis->(∀ jh H',ak H H'->b6 K H' jh (kis++as.map λs=>cR s.1)->Q jh H')->mJ HY xs ks H Q
 | [],[],ks,kis,H,Q,_,hk,q=>q ks H (ak.refl H) (by rw[acb,acz];exact hk)
 | x::xs,s::as,ks,kis,H,Q,hs,hk,q=>by
  refine⟨x,s,rfl,hs.1,λp hp=>?_⟩;have s1:=ax (o:=.tup ((cR s.1).map V.int)) hp;refine HZ (hs.2.same s1) (kis:=kis++[cR s.1]) (b6.snoc (aj.of az) ?_ (hk.same s1)) λjh H' s' fS=>q jh H' (s1.trans s') ?_
  .rcases s.1 with _|y<;>exact λz=>nomatch z
  .rw[YW];rwa [abo] at fS
 | [],_::_,_,_,_,_,h,_,_=>h.elim
 | _::_,[],_,_,_,_,h,_,_=>h.elim
inductive TC(vs:List V)(H:Hp)(Q:VK)(aQ:XK):Prop
 | mk(v u:V)(s t:S2)(_:vs=[v,u])(_:aG H v s.1 s.2)(_:aG H u t.1 t.2)(_:Q (.bl (gap s t)) H)
theorem TF(T:Tx K mg):Ok P w base 1 T.rL TC:=by
 refine aY Hd ?_;rintro _ _ _ _ _ _ _ _ _ ⟨v,u,⟨a,b⟩,⟨c,d⟩,rfl,⟨p,rfl,hp⟩,⟨r,rfl,bQ⟩,q⟩;refine⟨_,(au (aA (dQ (iV (mi (aw (aa 0) af))) (dQ (iV (mi (aw (aa 1) af))) (eS (eV (jx nZ) (aw (aa 1) af) (aF bG (aw (aa 0) af) af) (cO _))))))),?_⟩;rfl';refine aq (aj.of hp) rfl ?_;rcases b with _|y
 .rfl';exact q
 .rfl';refine aq (aj.of bQ) rfl ?_;rcases c with _|z
  .rfl';exact q
  .rfl';refine aq (aj.of bQ) rfl (aq (aj.of hp) rfl ?_);rfl';exact q
inductive Ia(K:Yu)(H:Hp)(a r l:YN)(zs:List V)(ss:List S2)(i:Nat)(σ:St)(H1:Hp):Prop
 | mk(ys:List V)(e:Option V)(_:σ=[some (.ref a),some (.ref r),e])(_:ak H H1)(_:H1 r=some (.lst ys))(_:aP H1 ys (gP ((ss.take i).foldl dX none)))(_:ah K H1 l zs)(_:aP H1 zs ss)(_:ys.length<=i)
inductive TH(K:Yu)(vs:List V)(H:Hp)(Q:VK)(aQ:XK):Prop
 | mk(a:YN)(xs:List V)(as:List S2)(_:vs=[.ref a])(_:ah K H a xs)(_:xs.length<64)(_:aP H xs as)(_:∀ l ys H',ak H H'->H l=none->H' l=some (.lst ys)->aP H' ys (lg as)->Q (.ref l) H')
theorem TJ(T:Tx K mg):Ok P w base 4 T.rM (TH K):=by
 refine aY vx ?_;rintro _ _ _ s H _ _ _ hr ⟨a,xs,as,rfl,hS,hz,hs,q⟩;refine⟨_,(ar (aI 1 vx.nd (dB ag))
  (ar (cW Zk rfl (cC (Oe (Tz T) (λ_ _ _ _ _ z=>C5 z) (hr.mono (by decide)) T.nB.b rfl T.nB.m rfl T.AV (aa 0))) (ck 2 vx.nd) (au (aJ (PW.pt (cI (b9 (a9 cK (by rfl) T.cp cf (ae (aa 1) ag)) af) (eB (cy (aE (TF T) hr (ae (aw (aa 1) (fu fJ af)) (ae (aa 2) ag))))))) (au (fo (ja ZP aae aaf n9 (aa 1) (ae (aa 2) ag)))) (au (tP (aE (Tw T) hr (ae (dB (ae (aw (aa 1) (fu fJ af)) (ae (aa 2) ag))) ag)) (tN (aa 1) (fu fJ af) set_list))))))
  (au (aA (aa 1))))),?_⟩
 rfl';refine⟨by decide,λr bQ=>?_⟩;have s1:=ax (o:=.lst []) bQ;have R1:upd H r (.lst []) r=some (.lst []):=az;generalize upd H r (.lst [])=H1 at s1 R1 ⊢;refine⟨a,xs,rfl,s1.seq hS,hz,HZ (hs.same s1) (ks:=[]) (kis:=[]) trivial λks H2 s2 hk=>⟨_,hk,λl hl=>?_⟩⟩;rw[YY];have s3:=(s1.trans s2).trans (ax (o:=.lst (bz (as.map λs=>cR s.1) .non xs)) hl);have L3:upd H2 l (.lst (bz (as.map λs=>cR s.1) .non xs)) l=some (.lst (bz (as.map λs=>cR s.1) .non xs)):=az;have R3:=ax (o:=.lst (bz (as.map λs=>cR s.1) .non xs)) hl _ _ (s2 _ _ R1);have Z3:=(hs.same s3).sort (kis:=as.map λs=>cR s.1);generalize upd H2 l (.lst (bz (as.map λs=>cR s.1) .non xs))=H3 at s3 L3 R3 Z3 ⊢;have zl:(bz (as.map λs=>cR s.1) .non xs).length<64:=by rw[oE];exact hz
 have rl:r≠l:=λz=>by rw[z] at R1;rw[s2 _ _ R1] at hl;cases hl
 unfold lg at q;generalize bz (as.map λs=>cR s.1) .non xs=zs at L3 Z3 zl ⊢;generalize bz (as.map λs=>cR s.1) (none,none) as=ss at Z3 q;rfl';refine⟨⟨_,ah.of L3⟩,kR (xs:=zs) (Ia K H a r l zs ss) ⟨[],none,rfl,s3,R3,trivial,ah.of L3,Z3,YD _⟩ ?_ ?_ ?_⟩
 .rintro i σ H4 _ ⟨_,_,_,_,_,_,h,_⟩;exact h
 .rintro i x σ H4 hx ⟨ys,e,rfl,s4,R4,Y4,L4,Z4,hy⟩;obtain⟨s,es,hsx⟩:=Z4.get hx;have hi:i<zs.length:=(YC.mp hx).1;have tk:(ss.take (i+1)).foldl dX none=dX ((ss.take i).foldl dX none) s:=by rw[aah,es,ab7];rfl
  have TK:∀ o,ah K (upd H4 r o) l zs:=λo=>by
   rcases L4 with (h|⟨z,h⟩)|h
   .exact .inl (.inl (by rw[aC (Zt rl)];exact h))
   .exact .inl (.inr ⟨z,by rw[aC (Zt rl)];exact h⟩)
   .exact .inr h
  have app:∀ R,dX ((ss.take i).foldl dX none) s=R->aP H4 (ys++[x]) (gP R)->t7 K "list" (.ref r) H4/\∃ A1,H4 r=some (.lst A1)/\A1.length<Y0/\Ia K H a r l zs ss (i+1) [some (.ref a),some (.ref r),some x] (upd H4 r (.lst (A1++[x]))):=λR eR hY=>by
   refine⟨.inl ⟨rfl,_,ah.of R4⟩,ys,R4,ZL hy (YU (by lia:i<64) (by decide)),ys++[x],_,rfl,jN bQ s4,az,?_,TK _,aP.put R4 Z4,?_⟩
   .rw[tk,eR];exact aP.put R4 hY
   .rw[YJ,YR];lia
  rfl';cases hR:(ss.take i).foldl dX none with
  | none =>
   rw[hR] at Y4 app;have e0:ys=[]:=Z1.mp (by have:=Y4.len;simpa [gP] using this);refine⟨_,dO (ah.of R4),?_⟩;rw[if_pos (by rw[e0];rfl)];refine app _ rfl ?_;rw[e0];exact⟨hsx,trivial⟩
  | some ip =>
   obtain⟨is,p⟩:=ip;rw[hR] at Y4 app;obtain⟨ws,v,e0,W4,hv⟩:=aP.snoc_inv Y4;have il:cE ys (-1)=some v:=by rw[e0];exact t4 ws v
   refine⟨_,dO (ah.of R4),?_⟩;rw[if_neg (by rw[e0,YJ,YR];lia)];refine bq (ah.of R4) il ⟨v,x,p,s,rfl,hv,hsx,?_⟩;cases hg:gap p s with
   | true =>
    rfl';refine app _ (by simp only[dX];rw[if_pos hg]) ?_;exact aP.app Y4 ⟨hsx,trivial⟩
   | false =>
    rfl';refine bq (ah.of R4) il ⟨br,λm hm=>?_⟩;have s5:=ax (o:=.lst [v,x]) hm;refine⟨m,[v,x],[p,s],rfl,ah.of az,br,⟨hv.same s5,hsx.same s5,trivial⟩,λw H5 s6 hw=>?_⟩;have s7:=s5.trans s6;have R5:=s7 _ _ R4;rfl';refine⟨ys,R5,ys.length-1,?_,ws++[w],_,rfl,jN bQ (s4.trans s7),?_,?_,?_,aP.put R5 (Z4.same s7),?_⟩
    .unfold gJ;rw[if_neg (by decide),if_pos (by rw[e0,YJ,YR];lia)]
     congr 1
     lia
    .rw[az,e0,YJ,YR,ae7,List.set_append_right _ _ (YD _),acW];rfl
    .rw[tk,hR];simp only[dX];rw[if_neg (by rw[hg];decide)];exact aP.put R5 (aP.app (W4.same s7) ⟨hw.two,trivial⟩)
    .rcases s7.seq L4 with (h|⟨z,h⟩)|h
     .exact .inl (.inl (by rw[aC (Zt rl)];exact h))
     .exact .inl (.inr ⟨z,by rw[aC (Zt rl)];exact h⟩)
     .exact .inr h
    .rw[YJ,YR];rw[e0,YJ,YR] at hy;lia
 .rintro σ H4 ⟨ys,e,rfl,s4,R4,Y4,L4,Z4,hy⟩;rfl';rw[ab0 (by rw[<- Z4.len];exact YD _)] at Y4;exact q _ _ _ s4 bQ R4 Y4
def fe(e t u d m:Int):Prop:=(1<=e/\e<=7)/\(1<=t/\t<=12)/\0<=u/\0<=d/\0<=m/\m<=e
noncomputable def vL(e t u d m:Int)(p:YN):List (Str × V):=[("eyes",.int e),("turns",.int t),("up",.int u),("down",.int d),("most",.int m),("told",.ref p)]
inductive TL(B C:YN)(vs:List V)(H:Hp)(Q:VK)(E:XK):Prop
 | mk(x dx:YN)(e t u d m:Int)(_:vs=[.ref x,.int e,.int t,.int u,.int d,.int m])(_:H x=some (.ins B dx []))(_:(¬ fe e t u d m->E (.ref C) none H))(_:(fe e t u d m->∀ p H',H p=none->SameBut x H H'->H' x=some (.ins B dx (vL e t u d m p))->H' p=some (.dT [])->Q .non H'))
theorem TM(T:Tx K mg):Om P w mg base 1 T.nC (TL T.aL T.lU):=by
 refine rd Hs ?_;rintro _ _ _ _ H _ _ E _ ⟨x,dx,e,t,u,d,m,rfl,hx,q0,q⟩;refine⟨_,(ar (aJ (PW.pt (cI (cU (zo gI gI af (aa 1) (E9 T.Tn rfl))) (eB (cU (zo gI gI af (aa 2) (E9 T.To rfl)))))) (au (jO jP rfl T.AW T.sR rfl (ae bo ag))) aK)
  (ar (aJ (PW.pt (cI (nj (aa 3) af) (eB (nj (aa 4) af)))) (au (jO jP rfl T.AW T.sR rfl (ae bo ag))) aK)
  (ar (aJ (cU (zo gI gI af (aa 5) (aa 1))) (au (jO jP rfl T.AW T.sR rfl (ae bo ag))) aK)
  (ar (ph (aa 0) (aa 1) rfl)
  (ar (ph (aa 0) (aa 2) rfl)
  (ar (ph (aa 0) (aa 3) rfl)
  (ar (ph (aa 0) (aa 4) rfl)
  (ar (ph (aa 0) (aa 5) rfl)
  (au (ph (aa 0) E8 rfl)))))))))),?_⟩
 rfl';have no:∀ D σ,¬ fe e t u d m->∀ x,Dd T.lU E (wV (tC (.str x)) tY) D σ H:=λD σ z x=>⟨by show 1<=Y0;decide,q0 z⟩
 refine aT (λh1=>aT (λh2=>?_) λh2=>no _ _ (λz=>by unfold fe at z;lia) _) λh1=>no _ _ (λz=>by unfold fe at z;lia) _;refine aT (λh3=>aT (λh4=>?_) λh4=>no _ _ (λz=>by unfold fe at z;lia) _) λh3=>no _ _ (λz=>by unfold fe at z;lia) _;refine aT (λh5=>no _ _ (λz=>by unfold fe at z;lia) _) λh5=>aT (λh6=>no _ _ (λz=>by unfold fe at z;lia) _) λh6=>?_;refine aT (λh7=>aT (λh8=>?_) λh8=>no _ _ (λz=>by unfold fe at z;lia) _) λh7=>no _ _ (λz=>by unfold fe at z;lia) _;replace q:=q (by unfold fe;lia);refine⟨_,_,_,hx,T.bI,T.pG,(by show 0<1000;decide),_,_,_,az,T.bI,T.nF,(by show 1<1000;decide),_,_,_,az,T.bI,T.vG,(by show 2<1000;decide),_,_,_,az,T.bI,T.vH,(by show 3<1000;decide),_,_,_,az,T.bI,T.pH,(by show 4<1000;decide),?_⟩;rw[tD,tD,tD,tD];intro p hp;have Ib:p≠x:=λz=>by rw[z,az] at hp;cases hp
 refine⟨_,_,_,(ax hp) _ _ az,T.bI,T.lV,(by show 5<1000;decide),q p _ (by rw[aC Ib] at hp;exact hp) (λb o hb e=>?_) az ?_⟩
 .rw[aC hb];exact (ax hp) _ _ (by rw[aC hb];exact e)
 .rw[aC Ib,az]
structure gf(B:YN)(H:Hp)(x:YN)(e t u d m:Int)(p:YN)(kvs:List (List Key × V)):Prop where
 ob:∃ dx,H x=some (.ins B dx (vL e t u d m p))
 tb:H p=some (.dT kvs)
theorem gf.same(h:gf B H x e t u d m p kvs)(s:ak H H'):gf B H' x e t u d m p kvs:=let ⟨⟨dx,a⟩,b⟩:=h;⟨⟨dx,s _ _ a⟩,s _ _ b⟩
inductive TN(B:YN)(vs:List V)(H:Hp)(Q:VK)(aQ:XK):Prop
 | mk(x p:YN)(e t u d m i:Int)(kvs:List (List Key × V))(_:vs=[.ref x,.int i])(_:gf B H x e t u d m p kvs)(_:Q (.bl (decide (0<=i/\i<e))) H)
inductive TQ(B:YN)(vs:List V)(H:Hp)(Q:VK)(aQ:XK):Prop
 | mk(x p:YN)(e t u d m i:Int)(kvs:List (List Key × V))(_:vs=[.ref x,.int i])(_:gf B H x e t u d m p kvs)(_:Q (.bl (decide (0<=i/\i<t))) H)
theorem TR(T:Tx K mg):Om P w mg base 1 T.lM (TN T.aL):=by
 refine zp Ht ?_;rintro _ _ _ _ _ _ _ _ _ ⟨x,p,e,t,u,d,m,i,kvs,rfl,⟨⟨dx,hx⟩,hp⟩,q⟩;refine⟨_,(au (aA (Cg gI wN af (aa 1) (eN rfl (aa 0) rfl)))),?_⟩;rfl';refine aT (λh1=>?_) λh1=>?_
 .refine⟨_,_,_,hx,T.bI,T.pG,_,rfl,?_⟩;rfl';rw[show decide (0<=i/\i<e)=decide (i<e) by simp[h1]] at q;exact q
 .rw[show decide (0<=i/\i<e)=false by simp[h1]] at q;exact q
theorem sV(T:Tx K mg):Om P w mg base 1 T.gU (TQ T.aL):=by
 refine zp Hu ?_;rintro _ _ _ _ _ _ _ _ _ ⟨x,p,e,t,u,d,m,i,kvs,rfl,⟨⟨dx,hx⟩,hp⟩,q⟩;refine⟨_,(au (aA (Cg gI wN af (aa 1) (eN rfl (aa 0) rfl)))),?_⟩;rfl';refine aT (λh1=>?_) λh1=>?_
 .refine⟨_,_,_,hx,T.bI,T.nF,_,rfl,?_⟩;rfl';rw[show decide (0<=i/\i<t)=decide (i<t) by simp[h1]] at q;exact q
 .rw[show decide (0<=i/\i<t)=false by simp[h1]] at q;exact q
inductive TU(B C:YN)(vs:List V)(H:Hp)(Q:VK)(E:XK):Prop
 | mk(x p:YN)(e t u d m i j:Int)(kvs:List (List Key × V))(_:vs=[.ref x,.int i,.int j])(_:gf B H x e t u d m p kvs)(_:(¬ ((0<=i/\i<e)/\0<=j/\j<t)->E (.ref C) none H))(_:((0<=i/\i<e)/\0<=j/\j<t->Q .non H))
theorem TV(T:Tx K mg):Om P w mg base 2 T.lP (TU T.aL T.jz):=by
 refine rd Hz ?_;rintro _ _ _ _ _ _ _ _ hr ⟨x,p,e,t,u,d,m,i,j,kvs,rfl,hb,q0,q⟩;refine⟨_,(au (aJ (PW.pt (cI (cU (cy (i5 (aa 0) T.bI T.Tc (TR T) (hr.mono (by decide)) T.lM.b .nil bX (ae (aa 1) ag)))) (eB (cU (cy (i5 (aa 0) T.bI T.sQ (sV T) (hr.mono (by decide)) T.gU.b .nil bX (ae (aa 2) ag))))))) (au (jO jP rfl T.AX T.sS rfl (ae bo ag))) aK)),?_⟩;obtain⟨⟨dx,hx⟩,hp⟩:=id hb;rfl';refine⟨_,_,hx,rfl,x,p,e,t,u,d,m,i,kvs,rfl,hb,?_⟩;by_cases h1:0<=i/\i<e
 .rw[decide_eq_true h1];rfl';refine⟨_,_,hx,rfl,x,p,e,t,u,d,m,j,kvs,rfl,hb,?_⟩;by_cases h2:0<=j/\j<t
  .rw[decide_eq_true h2];rfl';exact q ⟨h1,h2⟩
  .rw[decide_eq_false h2];rfl';exact⟨by decide,q0 λz=>h2 z.2⟩
 .rw[decide_eq_false h1];rfl';exact⟨by decide,q0 λz=>h1 z.1⟩
inductive TX(B C:YN)(vs:List V)(H:Hp)(Q:VK)(E:XK):Prop
 | mk(x p:YN)(e t u d m i j:Int)(kvs:List (List Key × V))(_:vs=[.ref x,.int i,.int j])(_:gf B H x e t u d m p kvs)(_:(cG kvs (bE i j)=none->∀ H',ak H H'->E (.ref C) none H'))(_:(∀ v,cG kvs (bE i j)=some v->∀ H',ak H H'->Q .non H'))
theorem TY(T:Tx K mg):Om P w mg base 1 T.lQ (TX T.aL T.jz):=by
 refine rd HC ?_;rintro _ _ _ _ _ _ _ _ hr ⟨x,p,e,t,u,d,m,i,j,kvs,rfl,hb,q0,q⟩;refine⟨_,(au (aJ (tJ (EG (eX hr) (bb (ae (aa 1) (ae (aa 2) ag))) (eN rfl (aa 0) rfl))) (au (jO jP rfl T.AX T.sS rfl (ae bo ag))) aK)),?_⟩;obtain⟨⟨dx,hx⟩,hp⟩:=id hb;rfl';refine⟨br,λk hk=>⟨_,_,_,(ax hk) _ _ hx,T.bI,T.lV,_,rfl,p,rfl,cG kvs (bE i j),eJ.t (k:=bE i j) ((ax hk) _ _ hp) az,?_⟩⟩;cases hv:cG kvs (bE i j) with
 | none=>exact⟨by decide,q0 hv _ (ax hk)⟩
 | some v=>exact q v hv _ (ax hk)
inductive TZ(B C:YN)(vs:List V)(H:Hp)(Q:VK)(E:XK):Prop
 | mk(x p:YN)(e t u d m i j:Int)(lo hi:En)(kvs:List (List Key × V))(_:vs=[.ref x,.int i,.int j,ev lo,ev hi])(_:gf B H x e t u d m p kvs)(_:kvs.length<1000)(_:(¬ (((0<=i/\i<e)/\0<=j/\j<t)/\aO lo hi=false)->E (.ref C) none H))(_:(((0<=i/\i<e)/\0<=j/\j<t)/\aO lo hi=false->∀ v H',SameBut p H H'->H' p=some (.dT (putK kvs (bE i j) v))->aG H' v lo hi->Q .non H'))
theorem T4(T:Tx K mg):Om P w mg base 3 T.lN (TZ T.aL T.jz):=by
 refine rd Hv ?_;rintro _ _ _ _ _ _ _ _ hr ⟨x,p,e,t,u,d,m,i,j,lo,hi,kvs,rfl,hb,hl,q0,q⟩;refine⟨_,(ar (fo (i5 (aa 0) T.bI T.Tf (TV T) (hr.mono (by decide)) T.lP.b .nil kU (ae (aa 1) (ae (aa 2) ag))))
  (ar (aJ (cy (aE (vK T) hr (ae (aa 3) (ae (aa 4) ag)))) (au (jO jP rfl T.AX T.sS rfl (ae bo ag))) aK)
  (au (EH (eX hr) (eN rfl (aa 0) rfl) (bb (ae (aa 1) (ae (aa 2) ag))) (bb (ae (aa 3) (ae (aa 4) ag))) rfl)))),?_⟩
 obtain⟨⟨dx,hx⟩,hp⟩:=id hb;rfl';refine⟨_,_,hx,rfl,x,p,e,t,u,d,m,i,j,kvs,rfl,hb,λz=>q0 λy=>z y.1,λbK=>?_⟩;refine⟨lo,hi,rfl,?_⟩;cases hc:aO lo hi with
 | true =>
  rfl';exact⟨by decide,q0 λz=>by rw[hc] at z;cases z.2⟩
 | false =>
  rfl';refine⟨br,λv hv=>⟨_,_,_,(ax hv) _ _ hx,T.bI,T.lV,_,rfl,br,λk hk=>?_⟩⟩;have s2:=(ax (o:=.tup [ev lo,ev hi]) hv).trans (ax (o:=.tup [.int i,.int j]) hk);refine⟨p,rfl,_,oN.t (k:=bE i j) (s2 _ _ hp) az (ag2 hl (by decide)),q ⟨bK,hc⟩ (.ref v) _ (λb o jT e=>?_) az ⟨v,rfl,?_⟩⟩
  .rw[aC jT];exact s2 _ _ e
  .have vp:v≠p:=λz=>by rw[z] at hv;rw[hp] at hv;cases hv
   rw[aC vp];exact (ax hk) _ _ az
inductive T5(K:Yu)(vs:List V)(H:Hp)(Q:VK)(aQ:XK):Prop
 | mk(a:YN)(ns:List Int)(k pr m:Int)(_:vs=[.ref a,.int k,.int pr,.int m])(_:ah K H a (ns.map V.int))(_:gx ns)(_:(-1000000<=k/\k<=1000000))(_:0<pr)(_:0<m)(_:∀ p:Int,0<=p->p<m->Q (.int p) H)
theorem T6(h:gx ns)(hk : -1000000<=k/\k<=1000000):oI k k/\oI (qB ns k+k * k) 48271:=by have c:=OH h k;have k1:Bt 64 k:=Bt.small (by lia) (by lia);have k2:Bt 128 (k * k):=k1.mul k1;have n2:Bt 64 48271:=Bt.small (by decide) (by decide);exact⟨⟨k1.up (by decide),k1.up (by decide)⟩,(c.add (k2.up (by decide))).up (by decide),n2.up (by decide)⟩
theorem cH(T:Tx K mg):Ok P w base 1 T.su (T5 K):=by
 refine aY HG ?_;rintro _ _ _ _ _ _ _ _ _ ⟨a,ns,k,pr,m,rfl,hS,hn,hk,hpr,hm,q⟩;refine⟨_,(ar (aJ (b9 (a9 cK (by rfl) T.cp cf (ae (aa 0) ag)) af) (au (aA af)) aK)
  (au (aA (aF o8 (aF o8 (aF GN (aF bG (aw (aa 0) (aF o8 (aa 1) (a9 cK (by rfl) T.cp cf (ae (aa 0) ag)))) (aF GN (aa 1) (aa 1))) af) (aa 2)) (aa 3))))),?_⟩
 rfl';refine⟨_,dO hS,?_⟩;rw[Yw];have pm:=T6 hn hk;refine aT (λh=>?_) λh=>?_
 .exact q 0 (by decide) hm
 .have h:0<(ns.length:Int):=by have:ns.length≠0:=λz=>h (by rw[z];rfl);lia
  refine⟨_,dO hS,?_⟩;rw[Yw];refine⟨h,bq hS (OI h) ?_⟩;rfl';exact⟨pm.1,pm.2,hpr,hm,q _ (age _ (by lia)) (aeZ _ hm)⟩
inductive T7(K:Yu)(vs:List V)(H:Hp)(Q:VK)(aQ:XK):Prop
 | mk(a:YN)(ns:List Int)(_:vs=[.ref a])(_:ah K H a (ns.map V.int))(_:gx ns)(_:∀ (p:Int) (H':Hp),ak H H'->Q (.int p) H')
theorem T8(T:Tx K mg):Ok P w base 2 T.sx (T7 K):=by
 refine aY AQ ?_;rintro _ _ _ _ _ _ _ _ hr ⟨a,ns,rfl,hS,hn,q⟩;refine⟨_,(ar (aJ (b9 (a9 cK (by rfl) T.cp cf (ae (aa 0) ag)) af) (au (aA af)) aK)
  (ar (aI 1 AQ.nd (aF o8 (aw (aa 0) af) (aF wM af af)))
  (au (aA (aw (bb (ae af (ae (aa 1) (ae (aF dn af (aa 1)) (ae (aF dn (aF wM af af) (aa 1)) ag))))) (aE (cH T) hr (ae (aa 0) (ae af (ae af (ae af ag)))))))))),?_⟩
 rfl';refine⟨_,dO hS,?_⟩;rw[Yw];refine aT (λh=>q _ _ (ak.refl _)) λh=>?_;have h:0<(ns.length:Int):=by have:ns.length≠0:=λz=>h (by rw[z];rfl);lia
 have h0:cE (ns.map V.int) 0=some (.int (ns.getD 0 0)):=cF (j:=0) (by rw[YF,Yv,Yx (by lia)];rfl);refine bq hS h0 ?_;rfl';refine⟨⟨by decide,by decide,by decide⟩,⟨by decide,by decide,by decide⟩,by decide,λt ht=>?_⟩;refine⟨a,ns,_,_,_,rfl,(ax ht).seq hS,hn,by lia,by lia,by lia,λp p1 p2=>?_⟩;rcases (by lia:p=0∨p=1∨p=2∨p=3) with rfl|rfl|rfl|rfl
 all_goals exact aq (aj.of az) rfl (q _ _ (ax ht))
inductive T9(K:Yu)(vs:List V)(H:Hp)(Q:VK)(aQ:XK):Prop
 | mk(p:YN)(lo hi:En)(n:Int)(_:vs=[.ref p,.int n])(_:aj K H p [ev lo,ev hi])(_:Q (.bl (hold lo hi n)) H)
theorem A2(T:Tx K mg):Ok P w base 1 T.sy (T9 K):=by
 refine aY HI ?_;rintro _ _ _ _ H _ Q _ _ ⟨p,lo,hi,n,rfl,hp,q⟩;refine⟨_,(au (aA (dQ (G3 (iV (pZ (aw (aa 0) af))) (eS (eV (jx gI) (aw (aa 0) af) (aa 1) (cO _)))) (eS (G3 (iV (pZ (aw (aa 0) af))) (eS (eV (jx gI) (aa 1) (aw (aa 0) af) (cO _)))))))),?_⟩;rcases lo with _|lo<;>rcases hi with _|hi
 all_goals simp only[uE,uF] at hp
 all_goals
  rfl'
  repeat' first
  | refine aq hp rfl ?_
  | (walk_at "p")
  | (refine aT (λhc=>?_) λhc=>?_)
 all_goals first
  | exact q
  | exact (congrArg (λb=>Q (V.bl b) H) (show hold _ _ n=_ by rw[aaH,uG];simp<;>lia)).mp q
inductive Ua(K:Yu)(vs:List V)(H:Hp)(Q:VK)(aQ:XK):Prop
 | mk(p:YN)(lo hi:En)(_:vs=[.ref p])(_:aj K H p [ev lo,ev hi])(_:Q (.bl (aO lo hi)) H)
theorem A3(T:Tx K mg):Ok P w base 1 T.iN (Ua K):=by
 refine aY HK ?_;rintro _ _ _ _ _ _ _ _ _ ⟨p,lo,hi,rfl,hp,q⟩;refine⟨_,(au (aA (dQ (iV (mi (aw (aa 0) af))) (dQ (iV (mi (aw (aa 0) af))) (eS (eV (jx nZ) (aw (aa 0) af) (aw (aa 0) af) (cO _))))))),?_⟩;rcases lo with _|lo<;>rcases hi with _|hi
 all_goals simp only[uE,uF] at hp
 all_goals
  rfl'
  repeat' first
  | exact q
  | refine aq hp rfl ?_
  | (walk_at "p")
structure sW(e t u d m f:Int):Prop where
 he:1<=e/\e<=7
 ht:1<=t/\t<=12
 het:(e<=3/\t<=4)∨(e<=7/\t<=2)∨(e<=2/\t<=12)
 hu:0<=u/\u<=13
 hd:0<=d/\d<=13
 hm:0<=m/\m<=e
 hf:1<=f/\f<=1000000000000000000000000000000
noncomputable def vM(e t u d m f:Int):List V:=[.int e,.int t,.int u,.int d,.int m,.int f]
inductive Ub(K:Yu)(vs:List V)(H:Hp)(Q:VK)(aQ:XK):Prop
 | mk(a:YN)(ns:List Int)(_:vs=[.ref a])(_:ah K H a (ns.map V.int))(_:gx ns)(_:∀ (r:YN) (e t u d m f:Int) (H':Hp),ak H H'->H' r=some (.tup (vM e t u d m f))->sW e t u d m f->Q (.ref r) H')
def Ic(e t:Int):Prop:=(1<=e/\1<=t)/\((e<=3/\t<=4)∨(e<=7/\t<=2)∨(e<=2/\t<=12))
theorem Uc(T:Tx K mg):Ok P w base 2 T.sA (Ub K):=by
 refine aY gb ?_;rintro _ _ _ _ H _ _ _ hr ⟨a,ns,rfl,hS,hn,q⟩;refine⟨_,(ar (aI 1 gb.nd (aE (cH T) hr (ae (aa 0) (ae af (ae af (ae af ag))))))
  (ar (aI 2 gb.nd (aF bG af (aE (cH T) hr (ae (aa 0) (ae af (ae af (ae af ag)))))))
  (ar (aI 3 gb.nd (aF bG af (aE (cH T) hr (ae (aa 0) (ae af (ae af (ae af ag)))))))
  (ar (aJ (b9 (aa 1) af) (ar (aI 2 gb.nd af)
    (au (aI 3 gb.nd af))) aK)
  (ar (aJ (b9 (aa 1) af) (ar (aI 2 gb.nd af)
    (au (aI 3 gb.nd af))) aK)
  (ar (aI 4 gb.nd (aw (bb (ae af (ae af (ae af (ae (aF wM af af) ag))))) (aE (cH T) hr (ae (aa 0) (ae af (ae af (ae af ag)))))))
  (ar (aI 5 gb.nd (aE (cH T) hr (ae (aa 0) (ae af (ae af (ae af ag))))))
  (ar (aI 6 gb.nd (aE (cH T) hr (ae (aa 0) (ae af (ae af (ae af ag))))))
  (ar (aJ (b9 (aa 1) af) (ar (aI 5 gb.nd af)
    (au (aI 6 gb.nd af))) aK)
  (au (aA (bb (ae (aa 2) (ae (aa 3) (ae (aa 5) (ae (aa 6) (ae (a9 (KZ rfl) (by rfl) T.vE ue (ae (aa 2) (ae (aE (cH T) hr (ae (aa 0) (ae af (ae af (ae af ag))))) ag))) (ae (aa 4) ag)))))))))))))))))),?_⟩
 refine aH (λσ H1=>∃ w:Int,σ=[some (.ref a),some (.int w),none,none,none,none,none]/\H1=H) (λN hN=>?_) ?_
 .rfl';refine⟨a,ns,_,_,_,rfl,hS,hn,by lia,by lia,by lia,λp p1 p2=>?_⟩;rfl';exact hN _ _ ⟨_,rfl,rfl⟩
 rintro _ yR σ H1 ⟨w,rfl,rfl⟩;subst yR;refine aH (λσ H2=>∃ e:Int,σ=[some (.ref a),some (.int w),some (.int e),none,none,none,none]/\H2=H1/\1<=e/\e<=3) (λN hN=>?_) ?_
 .rfl';refine⟨a,ns,_,_,_,rfl,hS,hn,by lia,by lia,by lia,λp p1 p2=>?_⟩;rfl';exact hN _ _ ⟨_,rfl,rfl,by lia,by lia⟩
 rintro _ yR σ H ⟨e,rfl,rfl,e1,e2⟩;subst yR;refine aH (λσ H2=>∃ t:Int,σ=[some (.ref a),some (.int w),some (.int e),some (.int t),none,none,none]/\H2=H/\1<=t/\t<=4) (λN hN=>?_) ?_
 .rfl';refine⟨a,ns,_,_,_,rfl,hS,hn,by lia,by lia,by lia,λp p1 p2=>?_⟩;rfl';exact hN _ _ ⟨_,rfl,rfl,by lia,by lia⟩
 rintro _ yR σ H1 ⟨t,rfl,rfl,t1,t2⟩;subst yR;refine aH (λσ H2=>∃ e t:Int,σ=[some (.ref a),some (.int w),some (.int e),some (.int t),none,none,none]/\H2=H1/\Ic e t) (λN hN=>?_) ?_
 .rfl';exact aT (λ_=>hN _ _ ⟨7,2,rfl,rfl,by decide,.inr (.inl (by decide))⟩) λ_=>hN _ _ ⟨e,t,rfl,rfl,⟨e1,t1⟩,.inl ⟨e2,t2⟩⟩
 rintro _ yR σ H ⟨e,t,rfl,rfl,hE⟩;subst yR;refine aH (λσ H2=>∃ e t:Int,σ=[some (.ref a),some (.int w),some (.int e),some (.int t),none,none,none]/\H2=H/\Ic e t) (λN hN=>?_) ?_
 .rfl';exact aT (λ_=>hN _ _ ⟨2,12,rfl,rfl,by decide,.inr (.inr (by decide))⟩) λ_=>hN _ _ ⟨e,t,rfl,rfl,hE⟩
 rintro _ yR σ H1 ⟨e,t,rfl,rfl,⟨e1,t1⟩,hE⟩;subst yR;refine aH (λσ H2=>∃ f:Int,σ=[some (.ref a),some (.int w),some (.int e),some (.int t),some (.int f),none,none]/\ak H1 H2/\1<=f/\f<=1000000000000000000000000000000) (λN hN=>?_) ?_
 .rfl';refine⟨⟨by decide,by decide,by decide⟩,by decide,λl hl=>?_⟩;refine⟨a,ns,_,_,_,rfl,(ax hl).seq hS,hn,by lia,by lia,by lia,λp p1 p2=>?_⟩;rcases (by lia:p=0∨p=1∨p=2∨p=3) with rfl|rfl|rfl|rfl
  all_goals exact aq (aj.of az) rfl (hN _ _ ⟨_,rfl,ax hl,by decide,by decide⟩)
 rintro _ yR σ H2 ⟨f,rfl,s2,f1,f2⟩;subst yR;refine aH (λσ H3=>∃ u:Int,σ=[some (.ref a),some (.int w),some (.int e),some (.int t),some (.int f),some (.int u),none]/\H3=H2/\0<=u/\u<=13) (λN hN=>?_) ?_
 .rfl';refine⟨a,ns,_,_,_,rfl,s2.seq hS,hn,by lia,by lia,by lia,λp p1 p2=>?_⟩;rfl';exact hN _ _ ⟨_,rfl,rfl,by lia,by lia⟩
 rintro _ yR σ H3 ⟨u,rfl,rfl,hu⟩;subst yR;refine aH (λσ H4=>∃ d:Int,σ=[some (.ref a),some (.int w),some (.int e),some (.int t),some (.int f),some (.int u),some (.int d)]/\H4=H3/\0<=d/\d<=13) (λN hN=>?_) ?_
 .rfl';refine⟨a,ns,_,_,_,rfl,s2.seq hS,hn,by lia,by lia,by lia,λp p1 p2=>?_⟩;rfl';exact hN _ _ ⟨_,rfl,rfl,by lia,by lia⟩
 rintro _ yR σ H4 ⟨d,rfl,rfl,hd⟩;subst yR;refine aH (λσ H5=>∃ u d:Int,σ=[some (.ref a),some (.int w),some (.int e),some (.int t),some (.int f),some (.int u),some (.int d)]/\H5=H4/\(0<=u/\u<=13)/\0<=d/\d<=13) (λN hN=>?_) ?_
 .rfl';exact aT (λ_=>hN _ _ ⟨0,0,rfl,rfl,by decide,by decide⟩) λ_=>hN _ _ ⟨u,d,rfl,rfl,hu,hd⟩
 rintro _ yR σ H5 ⟨u,d,rfl,rfl,hu,hd⟩;subst yR;rfl';refine⟨a,ns,_,_,_,rfl,s2.seq hS,hn,by lia,by lia,by lia,λp p1 p2=>?_⟩;rfl';refine⟨by decide,λr hr=>q r e t u d _ f _ (s2.trans (ax hr)) az ⟨by lia,by lia,hE,hu,hd,?_,f1,f2⟩⟩;split<;>lia
def sX(u d:Int)(cs:List Int):Prop:=∀ i,i+1<cs.length->-d<=cs.getD (i+1) 0-cs.getD i 0/\cs.getD (i+1) 0-cs.getD i 0<=u
theorem sX.snoc(h:sX u d (cs++[n]))(h1 : -d<=k-n)(h2:k-n<=u):sX u d (cs++[n]++[k]):=by
 intro i hi;rw[YJ,YJ,YR,YR] at hi;by_cases e:i+1<(cs++[n]).length
 .have:=h i e;simp only[Yv] at this ⊢;rw[Zx (l₁:=cs++[n]) e,Zx (l₁:=cs++[n]) (by lia)];exact this
 .rw[YJ,YR] at e;have ei:i=cs.length:=by lia
  subst ei;have a1:(cs++[n]++[k])[cs.length+1]?=some k:=by simp
  have a2:(cs++[n]++[k])[cs.length]?=some n:=by simp
  simp only[Yv,a1,a2,abF];exact⟨h1,h2⟩
inductive Ud(K:Yu)(vs:List V)(H:Hp)(Q:VK)(aQ:XK):Prop
 | mk(a b:YN)(ns:List Int)(e t u d m f n:Int)(_:vs=[.ref a,.ref b,.int n])(_:ah K H a (ns.map V.int))(_:gx ns)(_:aj K H b (vM e t u d m f))(_:sW e t u d m f)(_:∀ (l:YN) (cs:List Int) (H':Hp),ak H H'->H l=none->H' l=some (.lst (cs.map V.int))->cs.length=t.toNat->sX (f * u) (f * d) cs->Q (.ref l) H')
inductive Ie(H:Hp)(a b l:YN)(u d f n:Int)(i:Nat)(σ:St)(H1:Hp):Prop
 | mk(cs:List Int)(y:Int)(d4 d5:Option V)(_:σ=[some (.ref a),some (.ref b),some (.int n),some (.ref l),d4,d5])(_:ak H H1)(_:H1 l=some (.lst ((cs++[y]).map V.int)))(_:cs.length=i)(_:sX (f * u) (f * d) (cs++[y]))
theorem Ue(T:Tx K mg):Ok P w base 2 T.sC (Ud K):=by
 refine aY rC ?_;rintro _ _ _ _ H _ _ _ hr ⟨a,b,ns,e,t,u,d,m,f,n,rfl,hS,hn,hb,sh,q⟩;refine⟨_,(ar (aI 3 rC.nd (dB (ae (aa 2) ag)))
  (ar (cW Zk rfl (wH rfl T.dt (ae af (ae (aw (aa 1) af) ag))) (ck 4 rC.nd) (ar (aI 5 rC.nd (aF dn (aE (cH T) hr (ae (aa 0) (ae (aF bG af (aa 4)) (ae af (ae (aF bG (aF bG (aw (aa 1) af) (aw (aa 1) af)) af) ag))))) (aw (aa 1) af)))
    (au (fo (ja ZP aae aaf n9 (aa 3) (ae (aF bG (aw (aa 3) (fu fJ af)) (aF ni (aw (aa 1) af) (aa 5))) ag))))))
  (au (aA (aa 3))))),?_⟩
 obtain⟨-,⟨t1,t2⟩,-,⟨u1,u2⟩,⟨d1,d2⟩,-,f1,f2⟩:=id sh;refine aH (λσ H1=>∃ l,σ=[some (.ref a),some (.ref b),some (.int n),some (.ref l),none,none]/\ak H H1/\H l=none/\H1 l=some (.lst ([n].map V.int))) (λN hN=>?_) ?_
 .rfl';exact⟨by decide,λl hl=>hN _ _ ⟨l,rfl,ax hl,hl,az⟩⟩
 rintro _ yR σ H1 ⟨l,rfl,s1,f0,hl⟩;subst yR;refine aH (Ie H a b l u d f n (t-1).toNat) (λN hN=>?_) ?_
 .rfl';refine aq (dE s1 hb) (v:=.int t) rfl ?_;rfl';refine⟨by lia,by lia,kQ (Ie H a b l u d f n) ⟨[],n,_,_,rfl,s1,hl,rfl,λk h=>absurd h (by show ¬ k+1<1;lia)⟩ ?_ (λσ H' h=>hN _ _ h)⟩;rintro i σ H2 hi ⟨cs,y,d4,d5,rfl,s2,bp,aX,cc⟩;rfl';refine aq (dE s2 hb) (v:=.int u) rfl (aq (dE s2 hb) (v:=.int d) rfl ?_);rfl';refine⟨a,ns,_,_,_,rfl,s2.seq hS,hn,by lia,by lia,by lia,λp p1 p2=>?_⟩;rfl';refine aq (dE s2 hb) (v:=.int d) rfl ?_;rfl';refine⟨.inl ⟨rfl,_,ah.of bp⟩,bq (ah.of bp) (v:=.int y) (by rw[Zd];exact t4 _ _) (aq (dE s2 hb) (v:=.int f) rfl ?_)⟩;rfl';have m1:=acp (show p-d<=u by lia) (show 0<=f by lia);have m2:=acp (show -d<=p-d by lia) (show 0<=f by lia);rw[Int.mul_neg] at m2;refine⟨mO (by lia) (by lia),_,bp,ZL (by rw[Yw,YJ,aX];show i+1<=20;lia:_<=20) (by decide),cs++[y],y+f * (p-d),_,_,rfl,jN f0 s2,?_,by rw[YJ,aX];rfl,cc.snoc (by lia) (by lia)⟩;rw[az,Zd (l₁:=cs++[y])];rfl
 rintro _ yR σ H2 ⟨cs,y,d4,d5,rfl,s2,bp,aX,cc⟩;subst yR;rfl';exact q l _ H2 s2 f0 bp (by rw[YJ,aX];show (t-1).toNat+1=_;lia) cc
inductive Ug(K:Yu)(vs:List V)(H:Hp)(Q:VK)(aQ:XK):Prop
 | mk(a:YN)(ns:List Int)(k n f:Int)(_:vs=[.ref a,.int k,.int n,.int f])(_:ah K H a (ns.map V.int))(_:gx ns)(_:(-900000<=k/\k<=900000))(_:(1<=f/\f<=1000000000000000000000000000000))(_:∀ (p:YN) (lo hi:En) (H':Hp),ak H H'->H' p=some (.tup [ev lo,ev hi])->aO lo hi=false->hold lo hi n=true->Q (.ref p) H')
inductive A4(H:Hp)(a:YN)(k n f:Int)(σ:St)(H1:Hp):Prop
 | mk(lo hi:En)(o:Int)(_:σ=[some (.ref a),some (.int k),some (.int n),some (.int f),some (ev lo),some (ev hi),some (.int o)])(_:H1=H)(_:bF (lo,hi) n)
theorem Uh(T:Tx K mg):Ok P w base 2 T.sD (Ug K):=by
 refine aY ny ?_;rintro _ _ _ _ H _ _ _ hr ⟨a,ns,k,n,f,rfl,hS,hn,hk,⟨f1,f2⟩,q⟩;refine⟨_,(ar (aI 4 ny.nd (aF dn (aF dn (aa 2) (aF ni (aa 3) (aE (cH T) hr (ae (aa 0) (ae (aa 1) (ae af (ae af ag))))))) (aE (cH T) hr (ae (aa 0) (ae (aa 1) (ae af (ae af ag)))))))
  (ar (aI 5 ny.nd (aF bG (aa 2) (aF ni (aa 3) (aE (cH T) hr (ae (aa 0) (ae (aa 1) (ae af (ae af ag))))))))
  (ar (aI 6 ny.nd (aE (cH T) hr (ae (aa 0) (ae (aa 1) (ae af (ae af ag))))))
  (ar (aJ (b9 (aa 6) af) (au (aI 4 ny.nd bJ)) aK)
  (ar (aJ (b9 (aa 6) af) (au (aI 5 ny.nd bJ)) aK)
  (au (aA (bb (ae (aa 4) (ae (aa 5) ag)))))))))),?_⟩
 refine aH (λσ H1=>∃ lo:Int,σ=[some (.ref a),some (.int k),some (.int n),some (.int f),some (.int lo),none,none]/\H1=H/\lo<=n) (λN hN=>?_) ?_
 .rfl';refine⟨a,ns,_,_,_,rfl,hS,hn,by lia,by lia,by lia,λp p1 p2=>?_⟩;rfl';have:=abb (show 0<=f by lia) p1;refine⟨mO (by lia) (by lia),?_⟩;refine⟨a,ns,_,_,_,rfl,hS,hn,by lia,by lia,by lia,λr r1 r2=>?_⟩;rfl';exact hN _ _ ⟨_,rfl,rfl,by lia⟩
 rintro _ yR σ H1 ⟨lo,rfl,rfl,h1⟩;subst yR;refine aH (λσ H2=>∃ hi:Int,σ=[some (.ref a),some (.int k),some (.int n),some (.int f),some (.int lo),some (.int hi),none]/\H2=H1/\n<=hi) (λN hN=>?_) ?_
 .rfl';refine⟨a,ns,_,_,_,rfl,hS,hn,by lia,by lia,by lia,λp p1 p2=>?_⟩;rfl';have:=abb (show 0<=f by lia) p1;exact⟨mO (by lia) (by lia),hN _ _ ⟨_,rfl,rfl,by lia⟩⟩
 rintro _ yR σ H ⟨hi,rfl,rfl,h2⟩;subst yR;refine aH (A4 H a k n f) (λN hN=>?_) ?_
 .rfl';refine⟨a,ns,_,_,_,rfl,hS,hn,by lia,by lia,by lia,λp p1 p2=>?_⟩;rfl';exact hN _ _ ⟨some lo,some hi,p,rfl,rfl,λx z=>by cases z;exact h1,λy z=>by cases z;exact h2⟩
 rintro _ yR σ H1 ⟨lo,hi,o,rfl,rfl,bK⟩;subst yR;refine aH (A4 H1 a k n f) (λN hN=>?_) ?_
 .rfl';exact aT (λ_=>hN _ _ ⟨none,hi,o,rfl,rfl,λx z=>(nomatch z),bK.2⟩) λ_=>hN _ _ ⟨lo,hi,o,rfl,rfl,bK⟩
 rintro _ yR σ H ⟨lo,hi,o,rfl,rfl,bK⟩;subst yR;refine aH (A4 H a k n f) (λN hN=>?_) ?_
 .rfl';exact aT (λ_=>hN _ _ ⟨lo,none,o,rfl,rfl,bK.1,λx z=>(nomatch z)⟩) λ_=>hN _ _ ⟨lo,hi,o,rfl,rfl,bK⟩
 rintro _ yR σ H1 ⟨lo,hi,o,rfl,rfl,bK⟩;subst yR;rfl';refine⟨br,λp hp=>q p lo hi _ (ax hp) az ?_ (yw.mp bK)⟩;rcases lo with _|x<;>rcases hi with _|y
 .rfl
 .rfl
 .rfl
 .have h1:=bK.1 x rfl;have h2:=bK.2 y rfl;simp only[aO];exact decide_eq_false (by lia)
theorem Ui(h:r∈gy tb s w):r∈tb∨r.2=w:=by
 unfold gy at h;split at h
 .obtain⟨x,hx,rfl⟩:=YO.mp h;by_cases e:x.1=s
  .rw[if_pos e];exact .inr rfl
  .rw[if_neg e];exact .inl hx
 .rcases YX.mp h with z|z
  .exact .inl z
  .rw[YZ.mp z];exact .inr rfl
inductive fK(H:Hp)(v:V)(w:YN)(e t u d m:Int)(tb:Tb):Prop
 | mk(r:YN)(_:v = .ref r)(_:H r=some (.tup [.int e,.int t,.int u,.int d,.int m,.ref w]))(_:TabAt H w tb)
theorem fK.same(h:fK H v w e t u d m tb)(s:ak H H'):fK H' v w e t u d m tb:=let ⟨r,e,a,b⟩:=h;⟨r,e,s _ _ a,b.same s⟩
inductive Ig(H:Hp)(e t:Int)(q:YN)(n:Int)(H1:Hp):Prop
 | mk(tb:Tb)(_:ak H H1)(_:H q=none)(_:TabAt H1 q tb)(_:bL e t tb)(_:(tb.length:Int)<=n)(_:∀ r∈tb,aO r.2.1 r.2.2=false)
inductive Uj(K:Yu)(vs:List V)(H:Hp)(Q:VK)(aQ:XK):Prop
 | mk(a b c:YN)(ns cs:List Int)(e t u d m f:Int)(_:vs=[.ref a,.ref b,.ref c])(_:ah K H a (ns.map V.int))(_:gx ns)(_:aj K H b (vM e t u d m f))(_:sW e t u d m f)(_:ah K H c (cs.map V.int))(_:cs.length=t.toNat)(_:∀ (v:V) (w:YN) (tb:Tb) (H':Hp),ak H H'->H w=none->fK H' v w e t (f * u) (f * d) m tb->bL e t tb->tb.length<=24->(∀ r∈tb,aO r.2.1 r.2.2=false)->Q v H')
def A5(σ0:Option V->Option V->Option V->Option V->Option V->St)(H:Hp)(e t:Int)(q:YN)(n:Nat->Int)(i:Nat)(σ:St)(H1:Hp):Prop:=∃ e1 e2 e3 e4 e5,σ=σ0 e1 e2 e3 e4 e5/\Ig H e t q (n i) H1
theorem Ih(h:sW e t u d m f):e * t<=24:=by
 obtain⟨he,ht,h,-⟩:=h;rcases h with ⟨h1,h2⟩|⟨h1,h2⟩|⟨h1,h2⟩
 .exact abO (ada h1 h2 (by lia) (by decide)) (by decide)
 .exact abO (ada h1 h2 (by lia) (by decide)) (by decide)
 .exact ada h1 h2 (by lia) (by decide)
theorem Uk(T:Tx K mg):Ok P w base 3 T.sE (Uj K):=by
 refine aY iJ ?_;rintro _ _ _ s H _ _ _ hr ⟨a,b,c,ns,cs,e,t,u,d,m,f,rfl,hS,hn,hb,sh,hc,aX,q⟩;refine⟨_,(ar (aI 3 iJ.nd E8)
  (ar (aI 4 iJ.nd (aE (cH T) hr (ae (aa 0) (ae af (ae af (ae (aF bG (aw (aa 1) af) af) ag))))))
  (ar (cW Zk rfl (ft rfl T.dt (ae (aw (aa 1) af) ag)) (ck 5 iJ.nd) (au (cW Zk rfl (ft rfl T.dt (ae (aw (aa 1) af) ag)) (ck 6 iJ.nd) (ar (aI 7 iJ.nd (aF bG (aF bG af (aF ni af (aa 5))) (aa 6)))
    (ar (aI 8 iJ.nd (aw (aa 2) (aa 6)))
    (ar (aJ (nj (aF o8 (aF bG (aa 5) (aE (cH T) hr (ae (aa 0) (ae af (ae af (ae af ag)))))) (aw (aa 1) af)) (aa 4)) (au (aI 8 iJ.nd (aF bG (aa 8) (aF ni (aw (aa 1) af) (aF dn (aE (cH T) hr (ae (aa 0) (ae (aa 7) (ae af (ae af ag))))) af))))) aK)
    (ar (aI 9 iJ.nd (eV kK (aE (cH T) hr (ae (aa 0) (ae (aa 7) (ae af (ae af ag))))) af (cO _)))
    (ar (aJ (b9 (aw (aa 1) af) af) (au (aI 9 iJ.nd (eV (jx nZ) (aF o8 (aF bG (aF bG (aa 5) (aa 6)) (aE (cH T) hr (ae (aa 0) (ae af (ae af (ae af ag)))))) af) af (cO _)))) aK)
    (au (aJ (cU (cy (aa 9))) (au (EH (eX hr) (aa 3) (bb (ae (aa 5) (ae (aa 6) ag))) (aE (Uh T) hr (ae (aa 0) (ae (aa 7) (ae (aa 8) (ae (aw (aa 1) af) ag))))) rfl)) aK))))))))))
  (au (aA (bb (ae (aw (aa 1) af) (ae (aw (aa 1) af) (ae (aF ni (aw (aa 1) af) (aw (aa 1) af)) (ae (aF ni (aw (aa 1) af) (aw (aa 1) af)) (ae (aw (aa 1) af) (ae (aa 3) ag)))))))))))),?_⟩
 obtain⟨⟨e1,e2⟩,⟨t1,t2⟩,-,⟨u1,u2⟩,⟨d1,d2⟩,⟨m1,m2⟩,hf⟩:=id sh;have et:=Ih sh;refine aH (λσ H1=>∃ w,σ=[some (.ref a),some (.ref b),some (.ref c),some (.ref w),none,none,none,none,none,none]/\Ig H e t w 0 H1) (λN hN=>?_) ?_
 .rfl';exact λw gY=>hN _ _ ⟨w,rfl,[],ax gY,gY,⟨[],az,trivial⟩,bL.nil,ZJ _,λ_ h=>(nomatch h)⟩
 rintro _ yR σ H1 ⟨w,rfl,hw⟩;subst yR;obtain⟨_,s1,_⟩:=id hw;refine aH (λσ H2=>∃ wr:Int,σ=[some (.ref a),some (.ref b),some (.ref c),some (.ref w),some (.int wr),none,none,none,none,none]/\H2=H1) (λN hN=>?_) ?_
 .rfl';refine aq (dE s1 hb) (v:=.int m) rfl ?_;rfl';refine⟨a,ns,_,_,_,rfl,s1.seq hS,hn,by lia,by lia,by lia,λp p1 p2=>?_⟩;exact hN _ _ ⟨_,rfl,rfl⟩
 rintro _ yR σ H2 ⟨wr,rfl,rfl⟩;subst yR;refine aH (A5 (λe1 e2 e3 e4 e5=>[some (.ref a),some (.ref b),some (.ref c),some (.ref w),some (.int wr),e1,e2,e3,e4,e5]) H e t w (λ_=>e * t) 0) (λN hN=>?_) ?_
 .rfl';refine aq (dE s1 hb) (v:=.int e) rfl ?_;rfl';refine⟨by lia,by lia,kQ (A5 (λe1 e2 e3 e4 e5=>[some (.ref a),some (.ref b),some (.ref c),some (.ref w),some (.int wr),e1,e2,e3,e4,e5]) H e t w λi=>(i:Int) * t) ⟨_,_,_,_,_,rfl,by simpa using hw⟩ ?_ (λσ H' h=>hN _ _ ?_)⟩
  .rintro i σ H5 hi ⟨e1,e2,e3,e4,e5,rfl,Ii⟩;obtain⟨_,s5,_⟩:=id Ii;rfl';refine aq (dE s5 hb) (v:=.int t) rfl ?_;rfl';refine⟨by lia,by lia,kQ (A5 (λe2 e3 e4 e5 _=>[some (.ref a),some (.ref b),some (.ref c),some (.ref w),some (.int wr),some (.int (0+(i:Int))),e2,e3,e4,e5]) H e t w λj=>(i:Int) * t+j) ⟨_,_,_,_,none,rfl,by simpa using Ii⟩ ?_ ?_⟩
   .rintro j σ H6 hj ⟨e2,e3,e4,e5,_,rfl,Ul⟩;obtain⟨tb,s6,gY,⟨kvs,hk,hT⟩,ao,iP,dv⟩:=id Ul;have bi:(i:Int)<e:=by lia
    have bj:(j:Int)<t:=by lia
    have tl:=hT.len;show tL _ _ _ _ _;refine aH (λσ H7=>∃ kk:Int,σ=[some (.ref a),some (.ref b),some (.ref c),some (.ref w),some (.int wr),some (.int (0+(i:Int))),some (.int (0+(j:Int))),some (.int kk),e4,e5]/\H7=H6/\0<=kk/\kk<=1000) (λN hN=>?_) ?_
    .rfl';exact⟨mO (by lia) (by lia),hN _ _ ⟨_,rfl,rfl,by lia,by lia⟩⟩
    rintro _ yR σ H7 ⟨kk,rfl,rfl,k1,k2⟩;subst yR;refine aH (λσ H8=>∃ nn:Int,σ=[some (.ref a),some (.ref b),some (.ref c),some (.ref w),some (.int wr),some (.int (0+(i:Int))),some (.int (0+(j:Int))),some (.int kk),some (.int nn),e5]/\H8=H7) (λN hN=>?_) ?_
    .rfl';exact bq (s6.seq hc) (int_at (by lia) (by lia)) (hN _ _ ⟨_,rfl,rfl⟩)
    rintro _ yR σ H6 ⟨nn,rfl,rfl⟩;subst yR;refine aH (λσ H8=>∃ nn:Int,σ=[some (.ref a),some (.ref b),some (.ref c),some (.ref w),some (.int wr),some (.int (0+(i:Int))),some (.int (0+(j:Int))),some (.int kk),some (.int nn),e5]/\H8=H6) (λN hN=>?_) ?_
    .rfl';refine⟨a,ns,_,_,_,rfl,s6.seq hS,hn,by lia,by lia,by lia,λp p1 p2=>?_⟩;rfl';refine aq (dE s6 hb) (v:=.int e) rfl ?_;rfl';refine⟨by lia,aT (λ_=>?_) λ_=>hN _ _ ⟨nn,rfl,rfl⟩⟩;refine aq (dE s6 hb) (v:=.int f) rfl ?_;refine⟨a,ns,_,_,_,rfl,s6.seq hS,hn,by lia,by lia,by lia,λr r1 r2=>?_⟩;rfl';exact⟨mO (by lia) (by lia),hN _ _ ⟨_,rfl,rfl⟩⟩
    rintro _ yR σ H7 ⟨nn,rfl,rfl⟩;subst yR;refine aH (λσ H8=>∃ o:Bool,σ=[some (.ref a),some (.ref b),some (.ref c),some (.ref w),some (.int wr),some (.int (0+(i:Int))),some (.int (0+(j:Int))),some (.int kk),some (.int nn),some (.bl o)]/\H8=H7) (λN hN=>?_) ?_
    .rfl';refine⟨a,ns,_,_,_,rfl,s6.seq hS,hn,by lia,by lia,by lia,λp p1 p2=>?_⟩;rfl';exact hN _ _ ⟨_,rfl,rfl⟩
    rintro _ yR σ H6 ⟨o,rfl,rfl⟩;subst yR;refine aH (λσ H8=>∃ o:Bool,σ=[some (.ref a),some (.ref b),some (.ref c),some (.ref w),some (.int wr),some (.int (0+(i:Int))),some (.int (0+(j:Int))),some (.int kk),some (.int nn),some (.bl o)]/\H8=H6) (λN hN=>?_) ?_
    .rfl';refine aq (dE s6 hb) (v:=.int t) rfl ?_;rfl';refine aT (λ_=>?_) λ_=>hN _ _ ⟨o,rfl,rfl⟩;refine⟨a,ns,_,_,_,rfl,s6.seq hS,hn,by lia,by lia,by lia,λp p1 p2=>?_⟩;rfl';exact hN _ _ ⟨_,rfl,rfl⟩
    rintro _ yR σ H7 ⟨o,rfl,rfl⟩;subst yR;have le:(i:Int) * t+(j:Int)<=(i:Int) * t+((j+1:Nat):Int):=by lia
    have bm:0<=(i:Int) * t/\(i:Int) * t<=6 * 12:=⟨abb (by lia) (by lia),ada (by lia) t2 (by lia) (by decide)⟩
    cases o with
    | true =>
     rfl';exact⟨_,_,_,_,none,rfl,tb,s6,gY,⟨kvs,hk,hT⟩,ao,abO iP le,dv⟩
    | false =>
     rfl';refine aq (dE s6 hb) (v:=.int f) rfl ?_;rfl';refine⟨a,ns,_,_,_,rfl,s6.seq hS,hn,by lia,hf,λwp lo hi H8 s7 Um Uo _=>⟨br,λk Up=>?_⟩⟩;have u:=ax (o:=.tup [.int (0+(i:Int)),.int (0+(j:Int))]) Up;have Ij:=(s7.trans u) _ _ hk;refine⟨_,oN.t (k:=bE (0+(i:Int)) (0+(j:Int))) Ij az (ZL (by lia:kvs.length<=100) (by decide)),_,_,_,_,none,rfl,gy tb (0+(i:Int),0+(j:Int)) (lo,hi),jN gY (s6.trans (s7.trans u)),gY,⟨_,az,?_⟩,ao.put ⟨⟨by show 0<=0+(i:Int);lia,by show 0+(i:Int)<e;lia⟩,by show 0<=0+(j:Int);lia,by show 0+(j:Int)<t;lia⟩,?_,λr hr=>?_⟩
     .have F:Fr _ (upd _ w (.dT (putK kvs (bE (0+(i:Int)) (0+(j:Int))) (.ref wp)))):=Fe Ij;exact a8.put (s:=(0+(i:Int),0+(j:Int))) (w:=(lo,hi)) (hT.imp λv a b z=>(aG.same z (s7.trans u)).fr F) (aG.fr ⟨wp,rfl,u _ _ Um⟩ F)
     .have:=Pg tb (0+(i:Int),0+(j:Int)) (lo,hi);show ((gy tb (0+(i:Int),0+(j:Int)) (lo,hi)).length:Int)<=(i:Int) * t+((j+1:Nat):Int);lia
     .rcases Ui hr with z|z
      .exact dv r z
      .rw[z];exact Uo
   .rintro σ H6 ⟨e2,e3,e4,e5,_,rfl,tb,s6,gY,hT,ao,iP,dv⟩;refine⟨_,_,_,_,_,rfl,tb,s6,gY,hT,ao,?_,dv⟩;have iP:(tb.length:Int)<=(i:Int) * t+((t.toNat:Nat):Int):=iP;show (tb.length:Int)<=((i+1:Nat):Int) * t;rw[Int.natCast_add,ahf];lia
  .obtain⟨e1,e2,e3,e4,e5,rfl,tb,s6,gY,hT,ao,iP,dv⟩:=h;refine⟨_,_,_,_,_,rfl,tb,s6,gY,hT,ao,?_,dv⟩;have iP:(tb.length:Int)<=((e.toNat:Nat):Int) * t:=iP;rw[aao (by lia)] at iP;exact iP
 rintro _ yR σ H5 ⟨e1,e2,e3,e4,e5,rfl,tb,s5,gY,hT,ao,iP,dv⟩;subst yR;rfl';refine aq (dE s5 hb) (v:=.int e) rfl (aq (dE s5 hb) (v:=.int t) rfl (aq (dE s5 hb) (v:=.int f) rfl (aq (dE s5 hb) (v:=.int u) rfl ?_)));rfl';refine⟨mO (by lia) (by lia),aq (dE s5 hb) (v:=.int f) rfl (aq (dE s5 hb) (v:=.int d) rfl ?_)⟩;rfl';refine⟨mO (by lia) (by lia),aq (dE s5 hb) (v:=.int m) rfl ⟨by decide,λr hr=>?_⟩⟩;exact q (.ref r) w tb _ (s5.trans (ax hr)) gY ⟨r,rfl,az,hT.same (ax hr)⟩ ao (by lia) dv
structure cb(B:YN)(H:Hp)(x:YN)(e t u d m:Int)(p:YN)(tb:Tb):Prop where
 ob:∃ dx,H x=some (.ins B dx (vL e t u d m p))
 tb:TabAt H p tb
theorem cb.same{B:YN}{H H':Hp}{x p:YN}{e t u d m:Int}{tb:Tb}(h:cb B H x e t u d m p tb)(s:ak H H'):cb B H' x e t u d m p tb:=let ⟨⟨dx,a⟩,b⟩:=h;⟨⟨dx,s _ _ a⟩,b.same s⟩
theorem cb.now{B:YN}{H H':Hp}{x p:YN}{e t u d m:Int}{tb ig:Tb}(h:cb B H x e t u d m p tb)(s:Fr H H')(hp:TabAt H' p ig):cb B H' x e t u d m p ig:=let ⟨⟨dx,a⟩,_⟩:=h;⟨⟨dx,s _ _ (λ_ z=>nomatch z) a⟩,hp⟩
inductive Uq(B C:YN)(vs:List V)(H:Hp)(Q:VK)(E:XK):Prop
 | mk(x p:YN)(e t u d m i j:Int)(kvs:List (List Key × V))(_:vs=[.ref x,.int i,.int j])(_:gf B H x e t u d m p kvs)(_:(cG kvs (bE i j)=none->∀ H',ak H H'->E (.ref C) none H'))(_:(∀ v,cG kvs (bE i j)=some v->∀ H',SameBut p H H'->H' p=some (.dT (fU kvs (bE i j)))->Q .non H'))
theorem Ur(T:Tx K mg):Om P w mg base 2 T.lO (Uq T.aL T.jz):=by
 refine rd Hw ?_;rintro _ _ _ _ _ _ _ _ hr ⟨x,p,e,t,u,d,m,i,j,kvs,rfl,hb,q0,q⟩;refine⟨_,(ar (fo (i5 (aa 0) T.bI T.Tg (TY T) (hr.mono (by decide)) T.lQ.b .nil kU (ae (aa 1) (ae (aa 2) ag))))
  (au (fo (E5 (eX hr) (eN rfl (aa 0) rfl) (bb (ae (aa 1) (ae (aa 2) ag))) ⟨rfl,rfl,rfl,rfl⟩)))),?_⟩
 obtain⟨⟨dx,hx⟩,hp⟩:=id hb;rfl';refine⟨_,_,hx,rfl,x,p,e,t,u,d,m,i,j,kvs,rfl,hb,q0,λv hv H1 s1=>?_⟩;have jc:=s1 _ _ hx;have fL:=s1 _ _ hp;rfl';refine⟨_,_,_,jc,T.bI,T.lV,_,rfl,p,rfl,.inr ⟨kvs,.inl fL⟩,br,λk hk=>?_⟩;refine⟨kvs,(ax hk) _ _ fL,bE i j,az,v,hv,q v hv _ (λb o jT e=>?_) az⟩;rw[aC jT];exact (ax hk) _ _ (s1 _ _ e)
inductive Us(B:YN)(vs:List V)(H:Hp)(Q:VK)(aQ:XK):Prop
 | mk(x p:YN)(e t u d m:Int)(tb:Tb)(_:vs=[.ref x])(_:cb B H x e t u d m p tb)(_:(tb.map (·.1)).Nodup)(_:tb.length<64)(_:∀ l xs H',ak H H'->H l=none->H' l=some (.lst xs)->ay (jn H') xs (lj tb)->Q (.ref l) H')
theorem Ik(T:Tx K mg):Om P w mg base 1 T.kx (Us T.aL):=by
 refine zp Hy ?_;rintro _ _ _ s H _ Q _ hr ⟨x,p,e,t,u,d,m,tb,rfl,⟨⟨dx,hx⟩,kvs,hp,hT⟩,hn,bH,q⟩;refine⟨_,(au (aA (cN (bC.mk (fr:=[0]) (ys:=["self"]) rfl (by decide +kernel) rfl (by decide +kernel) rfl rfl (.cons rfl .nil) (.cons rfl rfl rfl rfl .nil) (by decide) rfl) rfl (cC (a9 (O9 rfl) (by rfl) T.AV xf (ae (eN rfl (aa 0) rfl) ag))) (λC s2 H2 ex pn=>⟨cQ,(bb (ae (cz (K:=K) (aa 0) af) (ae (cz (K:=K) (aa 0) af) (ae (Fc (eX hr) (eN (K:=K) rfl (aa 1) rfl) (aa 0) (λ_ _=>rfl)) ag))))⟩)))),?_⟩;rfl';refine⟨_,_,_,hx,T.bI,T.lV,_,rfl,p,rfl,kvs,hp,jm tb,Ph hT,Pj,by rw[hT.len];exact bH,λl ys hl hk=>?_⟩;have PS:=Pk hT hk;have s1:=ax (o:=.lst (bz (jm tb) .non ys)) hl;have L1:upd H l (.lst (bz (jm tb) .non ys)) l=some (.lst (bz (jm tb) .non ys)):=az;generalize upd H l (.lst (bz (jm tb) .non ys))=H1 at s1 L1 ⊢;refine⟨⟨_,ah.of L1⟩,bS fA (YE (by rw[PS.len,mR];exact abL bH:_<=64) (by decide)) (fB (R:=λH x (r:P2 × S2)=>dh H x r.1) (R':=λH y (r:P2 × S2)=>jn H y r) (f:=λr=>r) (bs:=[]) (λ_ _ _ _ s r=>dh.same r s) (λ_ _ _ _ s r=>jn.same r s) (PS.imp λx r z=>dh.same z s1) trivial (λH' s'=>ah.of (s' _ _ L1)) (λx r _ H' s' bQ Q h=>?_) (λx r bQ H' s' h0 Q h=>?_) λH2 zs s2 hz=>?_)⟩
 .rfl';exact h
 .obtain⟨a,rfl,ha⟩:=id h0;have S:=s1.trans s';have Ut:=hT.imp λv a b z=>aG.same z S;obtain⟨w,hw,iw⟩:=(Ut.val r.1).2 _ (oR hn (qH bQ));rfl';refine aq (aj.of ha) rfl (aq (aj.of ha) rfl ⟨_,_,_,S _ _ hx,T.bI,T.lV,_,rfl,p,rfl,w,?_,?_⟩)
  .rw[<- hw];exact eJ.t (k:=bE r.1.1 r.1.2) (S _ _ hp) ha
  .exact⟨by decide,λz hz=>h _ _ (ax hz) ⟨z,w,rfl,az,aG.same iw (ax hz)⟩⟩
 rw[YY,afD] at hz;exact λl2 bp=>q l2 zs _ (s1.trans (s2.trans (ax bp))) ((s1.trans s2).free bp) az (hz.imp λx r z=>jn.same z (ax bp))
inductive Uu(K:Yu)(vs:List V)(H:Hp)(Q:VK)(aQ:XK):Prop
 | mk(a:YN)(xs:List V)(ss:List S2)(_:vs=[.ref a])(_:ah K H a xs)(_:aP H xs ss)(_:xs.length<=1000)(_:∀ v H',ak H H'->fF H' v (dH (none,none) ss)->Q v H')
inductive Uv(K:Yu)(H:Hp)(a:YN)(xs:List V)(ss:List S2)(i:Nat)(σ:St)(H1:Hp):Prop
 | mk(v:V)(e:Option V)(_:σ=[some (.ref a),some v,e])(_:ak H H1)(_:aG H1 v (aZ (none,none) (ss.take i)).1 (aZ (none,none) (ss.take i)).2)(_:aO (aZ (none,none) (ss.take i)).1 (aZ (none,none) (ss.take i)).2=false)
theorem A6(T:Tx K mg):Ok P w base 3 T.rJ (Uu K):=by
 refine aY rm ?_;rintro _ _ _ _ H _ _ _ hr ⟨a,xs,ss,rfl,hS,hP,hn,q⟩;refine⟨_,(ar (aI 1 rm.nd (bb (ae bJ (ae bJ ag))))
  (ar (cW Zk rfl (cC (aa 0)) (ck 2 rm.nd) (ar (aI 1 rm.nd (aE (A0 T) hr (ae (aa 1) (ae (aa 2) ag))))
    (au (aJ (dq (aa 1)) (au (aA bJ)) aK))))
  (au (aA (aa 1))))),?_⟩
 have hA:=gA.mp hP;have hl:=hA.len;rfl';refine⟨br,λp hp=>?_⟩;have s0:=ax (o:=.tup [.non,.non]) hp;refine⟨⟨_,s0.seq hS⟩,kR (xs:=xs) (Uv K H a xs ss) ⟨_,_,rfl,s0,⟨p,rfl,az⟩,rfl⟩ ?_ ?_ ?_⟩
 .rintro i σ H1 _ ⟨_,_,_,s1,_⟩;exact s1.seq hS
 .rintro i x σ H1 hx ⟨v,e,rfl,s1,hv,hc⟩;obtain⟨w,hw,r⟩:=hA.get hx;have e1:=Pn (e:=(none,none)) hw;rfl';refine⟨v,x,_,_,w.1,w.2,rfl,hv,r.same s1,λy H2 s2 hm=>?_⟩;have ly:Em H2 y (aZ (none,none) (ss.take (i+1))).1 (aZ (none,none) (ss.take (i+1))).2:=by rw[e1];exact hm
  cases hk:aO (aZ (none,none) (ss.take (i+1))).1 (aZ (none,none) (ss.take (i+1))).2 with
  | true =>
   have ey:=ly.1 hk;subst ey;rfl';refine q _ _ (s1.trans s2) ?_;unfold dH;rw[if_pos (Pm hk)];rfl
  | false =>
   have hy:=ly.2 hk;obtain⟨t,rfl,ht⟩:=id hy;rfl';exact⟨_,_,rfl,s1.trans s2,hy,hk⟩
 .rintro σ H1 ⟨v,e,rfl,s1,hv,hc⟩;rfl';rw[hl,aaz] at hv hc;refine q _ _ s1 ?_;unfold dH;rw[if_neg (by rw[hc];simp)];exact hv
inductive Uw(B:YN)(vs:List V)(H:Hp)(Q:VK)(aQ:XK):Prop
 | mk(x p:YN)(e t u d m i:Int)(k:Str)(kvs:List (List Key × V))(_:vs=[.ref x,.str k,.int i])(_:gf B H x e t u d m p kvs)(_:Q (.bl (hasB t k i)) H)
theorem Ux(T:Tx K mg):Ok P w base 2 T.rY (Uw T.aL):=by
 refine aY Hi ?_;rintro _ _ _ _ _ _ _ _ hr ⟨x,p,e,t,u,d,m,i,k,kvs,rfl,hb,q⟩;refine⟨_,(ar (aJ (b9 (aa 1) bo) (au (aA (dQ (i5 (aa 0) T.bI T.sQ (sV T) (hr.mono (by decide)) T.gU.b .nil bX (ae (aa 2) ag)) (eS (i5 (aa 0) T.bI T.sQ (sV T) (hr.mono (by decide)) T.gU.b .nil bX (ae (aF bG (aa 2) af) ag)))))) aK)
  (au (aA (dQ (eV kK (aa 1) bo (cO _)) (eS (i5 (aa 0) T.bI T.sQ (sV T) (hr.mono (by decide)) T.gU.b .nil bX (ae (aa 2) ag))))))),?_⟩
 obtain⟨⟨dx,hx⟩,hp⟩:=id hb;unfold hasB at q;rfl'
 try refine⟨rfl,?_⟩
 by_cases hk:k = "step"
 .subst hk;rw[if_pos rfl] at q ⊢;refine⟨_,_,hx,rfl,x,p,e,t,u,d,m,i,kvs,rfl,hb,?_⟩;by_cases h1:0<=i/\i<t
  .rw[decide_eq_true h1] at q ⊢;rfl';refine⟨_,_,hx,rfl,x,p,e,t,u,d,m,_,kvs,rfl,hb,?_⟩;rw[adH] at q;exact q
  .rw[decide_eq_false h1] at q ⊢;rfl';exact q
 .rw[if_neg hk] at q;rw[if_neg hk]
  try refine⟨rfl,?_⟩
  by_cases kr:k = "at"
  .subst kr;rw[decide_eq_true rfl,adH] at q;rw[if_pos rfl];refine⟨_,_,hx,rfl,x,p,e,t,u,d,m,i,kvs,rfl,hb,?_⟩;exact q
  .rw[decide_eq_false kr,acY] at q;rw[if_neg λz=>kr (V.str.inj z)];exact q
inductive Uy(K:Yu)(B C:YN)(vs:List V)(H:Hp)(Q:VK)(E:XK):Prop
 | mk(x p b:YN)(e t u d m:Int)(kvs:List (List Key × V))(xs:List V)(ps:List Pa)(_:vs=[.ref x,.ref b])(_:gf B H x e t u d m p kvs)(_:ah K H b xs)(_:iA H xs ps)(_:(¬ iC t ps->E (.ref C) none H))(_:(iC t ps->Q .non H))
inductive Uz(H:Hp)(x b:YN)(t:Int)(ps:List Pa)(i:Nat)(σ:St)(H1:Hp):Prop
 | mk(e:Option V)(_:σ=[some (.ref x),some (.ref b),e])(_:H1=H)(_:iC t (ps.take i))
theorem Il(T:Tx K mg):Ok P w base 3 T.iK (Uy K T.aL T.gd):=by
 refine lF AM ?_;rintro _ _ _ _ H _ _ _ hr ⟨x,p,b,e,t,u,d,m,kvs,xs,ps,rfl,hb,hX,hP,q0,q⟩;refine⟨_,(au (cW afu rfl (cC (aa 1)) (ck 2 AM.nd) (au (aJ (cU (cy (aE (Ux T) hr (ae (aa 0) (ae (aw (aa 2) af) (ae (aw (aa 2) af) ag)))))) (au (jO jP rfl T.AY T.vI rfl (ae bo ag))) aK)))),?_⟩;have hl:=hP.len;rfl';refine⟨⟨_,hX⟩,kR (xs:=xs) (Uz H x b t ps) ⟨_,rfl,rfl,λ_ h=>by simp at h⟩ ?_ ?_ ?_⟩
 .rintro i σ H1 _ ⟨_,_,rfl,_⟩;exact hX
 .rintro i y σ H1 hy ⟨e1,rfl,rfl,hk⟩;obtain⟨pa,hpa,ta,qa,rfl,h1,h2⟩:=hP.get hy;rfl';refine aq (aj.of h1) rfl (aq (aj.of h1) rfl ?_);refine⟨x,p,e,t,u,d,m,pa.2.1,pa.1,kvs,rfl,hb,?_⟩;cases hc:hasB t pa.1 pa.2.1 with
  | true =>
   rfl';refine⟨_,rfl,rfl,λz hz=>?_⟩;rw[aah,hpa] at hz;rcases YX.mp hz with h|h
   .exact hk z h
   .have:z=pa:=by simpa using h
    rw[this];exact hc
  | false =>
   rfl';refine⟨by decide,q0 λz=>?_⟩;rw[z pa (Y6 hpa)] at hc;cases hc
 .rintro σ H1 ⟨e1,rfl,rfl,hk⟩;rw[hl,aaz] at hk;rfl';exact q hk
inductive UA(K:Yu)(vs:List V)(H:Hp)(Q:VK)(aQ:XK):Prop
 | mk(b:YN)(xs:List V)(ps:List Pa)(k:Str)(t:Int)(_:vs=[.ref b,.str k,.int t])(_:ah K H b xs)(_:iA H xs ps)(_:ps.length<=1000)(_:∀ l ys H',ak H H'->H l=none->H' l=some (.lst ys)->aP H' ys (sel ps k t)->Q (.ref l) H')
theorem Im(T:Tx K mg):Ok P w base 1 T.rZ (UA K):=by
 refine aY Hj ?_;rintro _ _ _ s H _ Q _ _ ⟨b,xs,ps,k,t,rfl,hX,hP,hn,q⟩;refine⟨_,(au (aA (cN (bC.mk (fr:=[1,2]) (ys:=["kind","turn"]) rfl (by decide +kernel) rfl (by decide +kernel) rfl rfl (.cons rfl (.cons rfl .nil)) (.cons rfl rfl rfl rfl (.cons rfl rfl rfl rfl .nil)) (by decide) rfl) rfl (cC (aa 0)) (λC s2 H2 ex pn=>⟨(gN (PW.pt (jF (b9 (cz (K:=K) (aa 0) af) (aa 1)) (kF (b9 (cz (K:=K) (aa 0) af) (aa 2)))))),(cz (K:=K) (aa 0) af)⟩)))),?_⟩;have hl:=hP.len;rfl';refine⟨⟨_,hX⟩,bS fA (YE (by lia:xs.length<=1000) (by decide)) (mS (R:=λx p=>qI H x p) (R':=λy (s:S2)=>aG H y s.1 s.2) (p:=iB k t) (f:=λp=>p.2.2) hX hP (λx p r Q h=>?_) (λx p _ r Q h=>?_) λzs hz=>?_)⟩
 .obtain⟨tt,u,rfl,ht,hu⟩:=r;unfold iB at h;rfl';refine aq (aj.of ht) rfl ?_;rfl'
  try refine⟨rfl,?_⟩
  by_cases hk:p.1=k
  .rw[decide_eq_true hk,adH] at h;rw[if_pos (by rw[hk])];refine aq (aj.of ht) rfl ?_;rfl';exact vk (Q:=λk=>Q k H) h
  .rw[decide_eq_false hk,acY] at h;rw[if_neg hk];exact h
 .obtain⟨tt,u,rfl,ht,hu⟩:=r;rfl';exact aq (aj.of ht) rfl (h _ ⟨u,rfl,hu⟩)
 .rw[YY];intro l bp;exact q l zs _ (ax bp) bp az (gA.mpr (hz.imp λ_ _ r=>r.same (ax bp)))
noncomputable def dw(u d:Int)(ps:List Pa)(n:Nat):List W2:=(Y1 n).map λ(k:Nat)=>dH (none,none) ((some (-d),some u)::sel ps "step" (k:Int))
inductive UB(K:Yu)(B C:YN)(vs:List V)(H:Hp)(Q:VK)(E:XK):Prop
 | mk(x p b:YN)(e t u d m:Int)(kvs:List (List Key × V))(xs:List V)(ps:List Pa)(_:vs=[.ref x,.ref b])(_:gf B H x e t u d m p kvs)(_:1<=t)(_:t<=12)(_:ah K H b xs)(_:iA H xs ps)(_:ps.length<=900)(_:(¬ iC t ps->E (.ref C) none H))(_:(iC t ps->∀ l ys H',ak H H'->H l=none->H' l=some (.lst ys)->ay (fF H') ys (dw u d ps (t-1).toNat)->Q (.ref l) H'))
theorem Io(T:Tx K mg):Ok P w base 4 T.lG (UB K T.aL T.gd):=by
 refine lF AN ?_;rintro _ _ _ s H _ Q _ hr ⟨x,p,b,e,t,u,d,m,kvs,xs,ps,rfl,hb,t1,t2,hX,hP,hn,q0,q⟩;refine⟨_,(ar (fo (cD (Il T) (hr.mono (by decide)) rfl T.iK.m T.iK.F.kp T.iK.b .nil kU (ae (aa 0) (ae (aa 1) ag))))
  (ar (aI 2 AN.nd (dB (ae (bb (ae (fu fJ (eN rfl (aa 0) rfl)) (ae (eN rfl (aa 0) rfl) ag))) ag)))
  (au (aA (cN (bC.mk (fr:=[2,1]) (ys:=["own","claim"]) rfl (by decide +kernel) rfl (by decide +kernel) rfl rfl (.cons rfl (.cons rfl .nil)) (.cons rfl rfl rfl rfl (.cons rfl rfl rfl rfl .nil)) (by decide) rfl) rfl (ft rfl T.dt (ae (aF dn (eN rfl (aa 0) rfl) af) ag)) (λC s2 H2 ex pn=>⟨cQ,(aE (A6 T) hr (ae (aF jL (aa 1) (aE (Im T) hr (ae (aa 2) (ae bo (ae (aa 0) ag))))) ag))⟩)))))),?_⟩
 obtain⟨⟨dx,hx⟩,hp⟩:=id hb;rfl';refine⟨x,p,b,e,t,u,d,m,kvs,xs,ps,rfl,hb,hX,hP,q0,λhk=>?_⟩;rfl';refine⟨_,_,_,hx,T.bI,T.vH,_,rfl,_,_,_,hx,T.bI,T.vG,_,rfl,br,λo ho=>⟨by decide,λl hl=>?_⟩⟩;have s1:=(ax (o:=.tup [.int (-d),.int u]) ho).trans (ax (o:=.lst [.ref o]) hl);have O1:aG (upd (upd H o (.tup [.int (-d),.int u])) l (.lst [.ref o])) (.ref o) (some (-d)) (some u):=⟨o,rfl,(ax hl) _ _ az⟩
 have L1:(upd (upd H o (.tup [.int (-d),.int u])) l (.lst [.ref o])) l=some (.lst [.ref o]):=az;generalize upd (upd H o (.tup [.int (-d),.int u])) l (.lst [.ref o])=H1 at s1 O1 L1 ⊢;refine⟨_,_,_,s1 _ _ hx,T.bI,T.nF,_,rfl,by lia,by lia,?_⟩;refine bS ir (by rw[Yw,YQ];exact YE (by lia:_<=12) (by decide)) (fB (R:=λ_ x (k:Nat)=>x=V.int ((0:Int)+k)) (R':=fF) (f:=λ(k:Nat)=>dH (none,none) ((some (-d),some u)::sel ps "step" (k:Int))) (λ_ _ _ _ _ h=>h) (λ_ _ _ _ s' h=>h.same s') (ay.fP _) (bs:=[]) trivial (λ_ _=>trivial) (λx k _ H2 s2 r Q h=>?_) (λx k _ H2 s2 r Q h=>?_) λH2 zs s2 hz=>?_)
 .rfl';exact h
 .subst r;have S2:=s1.trans s2;rfl';refine⟨b,xs,ps,"step",_,rfl,S2.seq hX,hP.same S2,by lia,λr ys H3 s3 _ R3 hR=>?_⟩;rw[abP] at hR;rfl';have hlen:ys.length<=900:=by
   have:=(gA.mp hR).len;have h2:(sel ps "step" (k:Int)).length<=ps.length:=by unfold sel;rw[Yw];exact Ze _ _
   lia
  refine⟨[.ref o],s3 _ _ (s2 _ _ L1),ys,R3,YE (by show 1+ys.length<=1000;lia) (by decide),λc hc=>?_⟩;have s4:=ax (o:=.lst ([.ref o]++ys)) hc;refine⟨c,_,(some (-d),some u)::sel ps "step" (k:Int),rfl,ah.of az,⟨(O1.same (s2.trans s3)).same s4,?_⟩,by rw[YJ,YR];lia,λv H5 s5 hv=>h _ _ ((s3.trans s4).trans s5) hv⟩;exact gA.mpr ((gA.mp hR).imp λ_ _ r=>r.same s4)
 .intro c hc;refine q hk c zs _ ((s1.trans s2).trans (ax hc)) ((s1.trans s2).free hc) az ?_;rw[YY] at hz;exact hz.imp λ_ _ r=>r.same (ax hc)
noncomputable def ff(ps:List Pa)(n:Nat):List W2:=(Y1 n).map λ(k:Nat)=>dH (none,none) (sel ps "at" (k:Int))
inductive UC(K:Yu)(B C:YN)(vs:List V)(H:Hp)(Q:VK)(E:XK):Prop
 | mk(x p b:YN)(e t u d m:Int)(kvs:List (List Key × V))(xs:List V)(ps:List Pa)(_:vs=[.ref x,.ref b])(_:gf B H x e t u d m p kvs)(_:1<=t)(_:t<=12)(_:ah K H b xs)(_:iA H xs ps)(_:ps.length<=900)(_:(¬ iC t ps->E (.ref C) none H))(_:(iC t ps->∀ l ys H',ak H H'->H l=none->H' l=some (.lst ys)->ay (fF H') ys (ff ps t.toNat)->Q (.ref l) H'))
theorem UD(T:Tx K mg):Ok P w base 4 T.lH (UC K T.aL T.gd):=by
 refine lF Hk ?_;rintro _ _ _ s _ _ Q _ hr ⟨x,p,b,e,t,u,d,m,kvs,xs,ps,rfl,hb,t1,t2,hX,hP,hn,q0,q⟩;refine⟨_,(ar (fo (cD (Il T) (hr.mono (by decide)) rfl T.iK.m T.iK.F.kp T.iK.b .nil kU (ae (aa 0) (ae (aa 1) ag))))
  (au (aA (cN (bC.mk (fr:=[1]) (ys:=["claim"]) rfl (by decide +kernel) rfl (by decide +kernel) rfl rfl (.cons rfl .nil) (.cons rfl rfl rfl rfl .nil) (by decide) rfl) rfl (ft rfl T.dt (ae (eN rfl (aa 0) rfl) ag)) (λC s2 H2 ex pn=>⟨cQ,(aE (A6 T) hr (ae (aE (Im T) hr (ae (aa 1) (ae bo (ae (aa 0) ag)))) ag))⟩))))),?_⟩
 obtain⟨⟨dx,hx⟩,hp⟩:=id hb;rfl';refine⟨x,p,b,e,t,u,d,m,kvs,xs,ps,rfl,hb,hX,hP,q0,λhk=>?_⟩;rfl';refine⟨_,_,_,hx,T.bI,T.nF,_,rfl,_,rfl,by lia,by lia,?_⟩;refine bS ir (by rw[Yw,YQ];exact YE (by lia:_<=12) (by decide)) (fB (R:=λ_ x (k:Nat)=>x=V.int ((0:Int)+k)) (R':=fF) (f:=λ(k:Nat)=>dH (none,none) (sel ps "at" (k:Int))) (λ_ _ _ _ _ h=>h) (λ_ _ _ _ s' h=>h.same s') (ay.fP _) (bs:=[]) trivial (λ_ _=>trivial) (λx k _ H2 s2 r Q h=>?_) (λx k _ H2 s2 r Q h=>?_) λH2 zs s2 hz=>?_)
 .rfl';exact h
 .subst r;rfl';refine⟨b,xs,ps,"at",_,rfl,s2.seq hX,hP.same s2,by lia,λr ys H3 s3 _ R3 hR=>?_⟩;rw[abP] at hR;rfl';have hlen:ys.length<=900:=by
   have:=(gA.mp hR).len;have h2:(sel ps "at" (k:Int)).length<=ps.length:=by unfold sel;rw[Yw];exact Ze _ _
   lia
  exact⟨r,ys,_,rfl,ah.of R3,hR,by lia,λv H5 s5 hv=>h _ _ (s3.trans s5) hv⟩
 .intro c hc;refine q hk c zs _ (s2.trans (ax hc)) (s2.free hc) az ?_;rw[YY] at hz;exact hz.imp λ_ _ r=>r.same (ax hc)
inductive UE(vs:List V)(H:Hp)(Q:VK)(aQ:XK):Prop
 | mk(v:V)(c:S2)(_:vs=[v])(_:lq H v c)(_:Q (.int (j8 c)) H)
theorem Ip(T:Tx K mg):Ok P w base 1 T.rN UE:=by
 refine aY He ?_;rintro _ _ _ _ _ _ _ _ _ ⟨v,⟨e1,e2⟩,rfl,⟨p,rfl,hp⟩,q⟩;refine⟨_,(ar (aJ (fc (aw (aa 0) af)) (au (aA (aw (aa 0) af))) aK)
  (ar (aJ (fc (aw (aa 0) af)) (au (aA (aw (aa 0) af))) aK)
  (au (aA af)))),?_⟩
 rfl';refine aq (aj.of hp) rfl ?_;rcases e1 with _|x
 .rfl';refine aq (aj.of hp) rfl ?_;rcases e2 with _|y
  .rfl';exact q
  .rfl';exact aq (aj.of hp) rfl q
 .rfl';exact aq (aj.of hp) rfl q
theorem UG(h:s∉tb.map (·.1)):gy tb s w=tb++[(s,w)]:=by unfold gy;rw[if_neg];intro z;obtain⟨r,hr,e⟩:=ZE.mp z;exact h (YO.mpr ⟨r,hr,by simpa using e⟩)
theorem UH{α β:Type}{f:α->β}{l:List α}{i:Nat}{a:α}(h:(l.map f).Nodup)(ha:l[i]?=some a):f a∉(l.take i).map f:=by
 have hi:=(YC.mp ha).1;have e:l=l.take i++a::l.drop (i+1):=by have:=aaT i l;rw[ZS hi] at this;rw[Yx hi] at ha;cases ha;exact this.symm
 intro hm;have h2:((l.take i).map f++f a::(l.drop (i+1)).map f).Nodup:=by rw[<- YW,<- Zd,<- e];exact h
 exact (adt.mp h2).2.2 _ hm _ (.head _) rfl
def UI(B:YN)(H3:Hp)(v:V)(x p:YN)(e t u d m:Int)(tb:Tb)(i:Nat)(σ:St)(H4:Hp):Prop:=(∃ e1,σ=[some v,some (.ref x),e1])/\oQ [p] H3 H4/\cb B H4 x e t u d m p (tb.take i)
inductive UJ(K:Yu)(B:YN)(vs:List V)(H:Hp)(Q:VK)(aQ:XK):Prop
 | mk(v:V)(w:YN)(e t u d m:Int)(tb:Tb)(_:vs=[v])(_:fK H v w e t u d m tb)(_:fe e t u d m)(_:bL e t tb)(_:tb.length<=60)(_:(∀ r∈tb,aO r.2.1 r.2.2=false))(_:∀ (x p:YN) (H':Hp),ak H H'->H x=none->H p=none->cb B H' x e t u d m p tb->Q (.ref x) H')
theorem UK(T:Tx K mg):Ok P w base 4 T.sF (UJ K T.aL):=by
 refine aY vA ?_;rintro _ _ _ _ H _ _ _ hr ⟨_,w,e,t,u,d,m,tb,rfl,⟨wr,rfl,hwr,hT⟩,gG,ao,kA,dv,q⟩;refine⟨_,(ar (aI 1 vA.nd (Lj T.AZ (TM T) (hr.mono (by decide)) rfl T.S9 T.nC.b .nil bX (ae (aw (aa 0) af) (ae (aw (aa 0) af) (ae (aw (aa 0) af) (ae (aw (aa 0) af) (ae (aw (aa 0) af) ag)))))))
  (ar (FO (cW Zk rfl (FP (aw (aa 0) af)) (ck 2 vA.nd) (au (fo (i5 (aa 1) T.bI T.Td (T4 T) (hr.mono (by decide)) T.lN.b .nil bX (ae (aw (aa 2) af) (ae (aw (aa 2) af) (ae (aw (uQ (eX hr) (aw (aa 0) af) (aa 2) (λ_ _=>rfl)) af) (ae (aw (uQ (eX hr) (aw (aa 0) af) (aa 2) (λ_ _=>rfl)) af) ag)))))))))
  (au (aA (aa 1))))),?_⟩
 obtain⟨kvs,hk,hA⟩:=id hT;refine aH (λσ H1=>∃ x p,σ=[some (.ref wr),some (.ref x),none]/\ak H H1/\H x=none/\H p=none/\cb T.aL H1 x e t u d m p []) (λN hN=>?_) ?_
 .rfl';refine aq (aj.of hwr) (v:=.int e) rfl (aq (aj.of hwr) (v:=.int t) rfl (aq (aj.of hwr) (v:=.int u) rfl (aq (aj.of hwr) (v:=.int d) rfl (aq (aj.of hwr) (v:=.int m) rfl λx dx hx UL fH=>?_))));refine⟨x,dx,e,t,u,d,m,rfl,az,λz=>absurd gG z,λ_ p H1 hp s1 X1 P1=>⟨rfl,?_⟩⟩;have M:=OU (C:=T.aL) (fs:=[]) hx UL fH;have S1:ak H H1:=λb o e=>s1 b o (λz=>by rw[z,hx] at e;cases e) (M _ _ e);exact hN _ _ ⟨x,p,rfl,S1,hx,M.free hp,⟨⟨_,X1⟩,[],P1,trivial⟩⟩
 rintro _ yR σ H1 ⟨x,p,rfl,s1,fx,fp,hB⟩;subst yR;have gZ:=s1 _ _ hk;have wp:w≠p:=λz=>by rw[z,fp] at hk;cases hk
 refine aH (λσ H2=>(∃ e1,σ=[some (.ref wr),some (.ref x),e1])/\ak H H2/\cb T.aL H2 x e t u d m p tb) (λN hN=>?_) ?_
 .rfl';refine⟨w,kvs,gZ,λo=>?_⟩;obtain⟨⟨dx,jc⟩,kp,fL,UM⟩:=id hB;have xw:x≠w:=λz=>by rw[z,gZ] at jc;cases jc
  have lW:=yQ gZ (s1 _ _ hwr) (u:=.aN o (.dT kvs));have w3:upd H1 w (.aN o (.dT kvs)) w=some (.aN o (.dT kvs)):=az;have p3:upd H1 w (.aN o (.dT kvs)) p=some (.dT kp):=by rw[aC (Zt wp)];exact fL
  have Iq:cb T.aL (upd H1 w (.aN o (.dT kvs))) x e t u d m p []:=⟨⟨dx,by rw[aC xw];exact jc⟩,kp,p3,UM.imp λ_ _ _ z=>z.aN gZ⟩
  have nG:=a8.aN (hA.imp λ_ _ _ z=>aG.same z s1) gZ (u:=.aN o (.dT kvs));have sY:∀ H4,oQ [p] (upd H1 w (.aN o (.dT kvs))) H4->ak H (upd H4 w (.dT kvs)):=λH4 bu b u hb=>by
   by_cases hbw:b=w
   .subst hbw;rw[az];rw[hk] at hb;exact hb
   .rw[aC hbw];exact bu b u (by simpa using λz=>by rw[z,fp] at hb;cases hb) (by rw[aC hbw];exact s1 _ _ hb)
  refine aq (aj.of lW) (v:=.ref w) rfl ⟨w,rfl,o,kvs,w3,λlX=>?_⟩;have PT:=nG.qG lX;have kl:=PT.len;rw[Yw] at kl;generalize upd H1 w (.aN o (.dT kvs))=H3 at lW w3 p3 Iq nG sY PT;have np:∀ (z:YN) (us:List V),H3 z=some (.tup us)->z∉[p]:=λz us hz=>by simpa using λy=>by rw[y,p3] at hz;cases hz
  refine Qr (xs:=gC o) (UI T.aL H3 (.ref wr) x p e t u d m tb) rfl (by rw[kl,hA.len]) ⟨⟨_,rfl⟩,λ_ _ _ z=>z,Iq⟩ ?_ ?_ ?_
  .rintro i σ H4 _ ⟨_,bu,_⟩;exact bu w _ (by simpa using wp) w3
  .rintro i v σ H4 hv ⟨⟨e1,rfl⟩,bu,kB⟩;obtain⟨r1,cT,ka,rfl,hka⟩:=PT.get hv;rw[YF] at cT;obtain⟨r,hr,rfl⟩:=Zh.mp cT;have pI:=Y6 hr;obtain⟨⟨vN,nH⟩,kq,lY,vO⟩:=id kB;obtain⟨vv,hvv,va,rfl,hva⟩:=(nG.val r.1).2 _ (oR ao.1 pI);have A7:=bu ka _ (np _ _ hka) hka;have Ir:=bu wr _ (np _ _ lW) lW;have w4:=bu w _ (by simpa using wp) w3;have Iu:=bu va _ (np _ _ hva) hva;have gt:eJ H4 w (.ref ka) (some (.ref va)):=by rw[<- hvv];exact eJ.z (k:=bE r.1.1 r.1.2) w4 A7
   rfl';refine⟨_,_,nH,rfl,aq (aj.of A7) (v:=.int r.1.1) rfl (aq (aj.of A7) (v:=.int r.1.2) rfl (aq (aj.of Ir) (v:=.ref w) rfl ⟨w,rfl,.ref va,gt,aq (aj.of Iu) rfl (aq (aj.of Ir) (v:=.ref w) rfl ⟨w,rfl,.ref va,gt,aq (aj.of Iu) rfl ?_⟩)⟩))⟩;have UN:=ao.2 r pI;have UO:=vO.len;rw[ack] at UO;have xp:x≠p:=λz=>by rw[z,lY] at nH;cases nH
   refine⟨x,p,e,t,u,d,m,r.1.1,r.1.2,r.2.1,r.2.2,kq,rfl,⟨⟨vN,nH⟩,lY⟩,by lia,λz=>absurd ⟨UN,dv r pI⟩ z,λ_ v9 H9 sb A8 UP=>⟨⟨_,rfl⟩,λc o hc ec=>sb c o (by simpa using hc) (bu c o hc ec),?_⟩⟩;have ek:tb.take (i+1)=gy (tb.take i) r.1 r.2:=by rw[UG (UH ao.1 hr),aah,hr];rfl
   rw[ek];exact⟨⟨vN,sb x _ xp nH⟩,_,A8,a8.put (vO.imp λv a b z=>z.fr (SameBut.fr sb lY)) UP⟩
  .rintro σ H4 ⟨⟨e1,rfl⟩,bu,kB⟩;rw[kl,aaz] at kB;have w4:=bu w _ (by simpa using wp) w3;obtain⟨⟨vN,nH⟩,kq,lY,vO⟩:=kB;refine⟨w4,hN _ _ ⟨⟨_,rfl⟩,sY _ bu,⟨vN,by rw[aC xw];exact nH⟩,kq,by rw[aC (Zt wp)];exact lY,vO.imp λv a b ⟨pt,e,h⟩=>⟨pt,e,?_⟩⟩⟩;rw[aC (λz=>by rw[z,w4] at h;cases h)];exact h
 rintro _ yR σ H2 ⟨⟨e1,rfl⟩,s2,UQ⟩;subst yR;rfl';exact q x p H2 s2 fx fp UQ
def A9(tb:Tb)(cs:List Int)(i:Int):Prop:=∃ r∈tb,r.1.1=i/\hs r.2 (dm cs r.1.2.toNat)=false
inductive UR(K:Yu)(vs:List V)(H:Hp)(Q:VK)(aQ:XK):Prop
 | mk(v:V)(w c:YN)(e t u d m:Int)(tb:Tb)(cs:List Int)(_:vs=[v,.ref c])(_:fK H v w e t u d m tb)(_:bL e t tb)(_:tb.length<=60)(_:ah K H c (cs.map V.int))(_:cs.length=t.toNat)(_:∀ (zs:List Int) (H':Hp),ak H H'->zs.Nodup->(∀ i,i∈zs↔A9 tb cs i)->Q (.int zs.length) H')
theorem US(T:Tx K mg):Ok P w base 2 T.sG (UR K):=by
 refine aY HJ ?_;rintro _ _ _ _ H _ Q _ hr ⟨_,w,c,e,t,u,d,m,tb,cs,rfl,⟨wr,rfl,hwr,hT⟩,ao,kA,hc,aX,q⟩;refine⟨_,(au (FO (aA (SO rfl (cN (bC.mk (fr:=[1,0]) (ys:=["_law_course","_law_world_here"]) rfl (by decide +kernel) rfl (by decide +kernel) rfl rfl (.cons rfl (.cons rfl .nil)) (.cons rfl rfl rfl rfl (.cons rfl rfl rfl rfl .nil)) (by decide) rfl) rfl (FP (aw (aa 0) af)) (λC s2 H2 ex pn=>⟨(gN (cU (cy (aE (A2 T) hr (ae (Fc (eX hr) (cz (K:=K) (aa 2) af) (aa 0) (λ_ _=>rfl)) (ae (cz (K:=K) (aa 1) (cz (K:=K) (aa 0) af)) ag)))))),(cz (K:=K) (aa 0) af)⟩)) T.cp T.HQ)))),?_⟩;obtain⟨kvs,hk,hA⟩:=id hT;rfl';refine⟨w,kvs,hk,λo=>?_⟩;have lW:=yQ hk hwr (u:=.aN o (.dT kvs));have w3:upd H w (.aN o (.dT kvs)) w=some (.aN o (.dT kvs)):=az;have nG:=hA.aN hk (u:=.aN o (.dT kvs));have Iv:ah K (upd H w (.aN o (.dT kvs))) c (cs.map V.int):=Qw hk hc;have sY:∀ H4,ak (upd H w (.aN o (.dT kvs))) H4->ak H (upd H4 w (.dT kvs)):=λH4 s4=>Qu hk s4;refine aq (aj.of lW) (v:=.ref w) rfl ⟨w,rfl,o,kvs,w3,λlX=>?_⟩;have PT:=nG.qG lX;have kl:=PT.len;rw[Yw] at kl;generalize upd H w (.aN o (.dT kvs))=H3 at lW w3 nG Iv sY PT;have P0:ay (λv (r:P2 × S2)=>dh H3 v r.1) (gC o) tb:=ay.bind PT;refine bS (Qt (xs:=gC o) rfl (by rw[kl,hA.len])) (YE (by lia:(gC o).length<=64) (by decide)) (k8 (R:=λv (r:P2 × S2)=>dh H3 v r.1) (p:=λr=>!hs r.2 (dm cs r.1.2.toNat)) (f:=λr=>.int r.1.1) w3 P0 (λv r hr rv Q h=>?_) (λv r hr hp rv Q h=>?_) ?_)
 .obtain⟨ka,rfl,hka⟩:=rv;obtain⟨⟨b1,b2⟩,b3,b4⟩:=ao.2 r hr;obtain⟨vv,hvv,va,rfl,hva⟩:=(nG.val r.1).2 _ (oR ao.1 hr);rfl';refine aq (aj.of lW) (v:=.ref w) rfl ⟨w,rfl,.ref va,by rw[<- hvv];exact eJ.z (k:=bE r.1.1 r.1.2) w3 hka,aq (aj.of hka) (v:=.int r.1.2) rfl (bq Iv ((congrArg (cE _) (show r.1.2=((r.1.2.toNat:Nat):Int) by lia)).trans (cF (Qx (by lia)))) ⟨va,r.2.1,r.2.2,dm cs r.1.2.toNat,rfl,aj.of hva,?_⟩)⟩;rfl';exact h
 .obtain⟨ka,rfl,hka⟩:=rv;rfl';exact aq (aj.of hka) (v:=.int r.1.1) rfl h
 .rw[YY,show ((tb.filter λr=>!hs r.2 (dm cs r.1.2.toNat)).map λr=>V.int r.1.1)=((tb.filter λr=>!hs r.2 (dm cs r.1.2.toNat)).map λr=>r.1.1).map V.int by rw[ZG];rfl];intro l hl;have u:=ax (o:=.lst (((tb.filter λr=>!hs r.2 (dm cs r.1.2.toNat)).map λr=>r.1.1).map V.int)) hl;have fl:=Ze (λr:P2 × S2=>!hs r.2 (dm cs r.1.2.toNat)) tb;refine⟨l,rfl,_,ah.of az,by rw[Yw];lia,λzs hz hm=>⟨u _ _ w3,q zs _ (sY _ u) hz λi=>?_⟩⟩;rw[hm,YO];constructor
  .rintro ⟨r,hr,e⟩;obtain⟨h1,h2⟩:=Y8.mp hr;exact⟨r,h1,e,by simpa using h2⟩
  .rintro ⟨r,hr,e,h⟩;exact⟨r,Y8.mpr ⟨hr,by simpa using h⟩,e⟩
theorem UT{ps:List Pa}{i:Nat}{p:Pa}{k:Str}{t:Int}(h:ps[i]?=some p):sel (ps.take (i+1)) k t=sel (ps.take i) k t++(if iB k t p=true then [p.2.2] else []):=by
 unfold sel;rw[aah,h,ae6,Zd]
 congr 1
 simp only[ae0,Zs,List.filter_nil];split<;>rfl
theorem UU(e:S2)(ss:List S2)(s:S2):aZ e (ss++[s])=(di (aZ e ss).1 s.1,dj (aZ e ss).2 s.2):=by unfold aZ;rw[ab7];rfl
inductive UW(K:Yu)(vs:List V)(H:Hp)(Q:VK)(aQ:XK):Prop
 | mk(bg b:YN)(lo hi:En)(xs:List V)(ps:List Pa)(k:Str)(t:Int)(_:vs=[.ref bg,.ref b,.str k,.int t])(_:aj K H bg [ev lo,ev hi])(_:ah K H b xs)(_:iA H xs ps)(_:ps.length<=1000)(_:∀ v H',ak H H'->aG H' v (aZ (lo,hi) (sel ps k t)).1 (aZ (lo,hi) (sel ps k t)).2->Q v H')
inductive sZ(H:Hp)(bg b:YN)(lo hi:En)(ps:List Pa)(k:Str)(t:Int)(i:Nat)(σ:St)(H1:Hp):Prop
 | mk(e1:Option V)(_:σ=[some (.ref bg),some (.ref b),some (.str k),some (.int t),some (ev (aZ (lo,hi) (sel (ps.take i) k t)).1),some (ev (aZ (lo,hi) (sel (ps.take i) k t)).2),e1])(_:H1=H)
theorem Iw(T:Tx K mg):Ok P w base 1 T.sI (UW K):=by
 refine aY nz ?_;rintro _ _ _ _ H _ _ _ _ ⟨bg,b,lo,hi,xs,ps,k,t,rfl,hg,hX,hP,hn,q⟩;refine⟨_,(ar (aI 4 nz.nd (aw (aa 0) af))
  (ar (aI 5 nz.nd (aw (aa 0) af))
  (ar (cW Zk rfl (cC (aa 1)) (ck 6 nz.nd) (au (aJ (PW.pt (jF (b9 (aw (aa 6) af) (aa 2)) (kF (b9 (aw (aa 6) af) (aa 3))))) (ar (aJ (PW.pt (cI (dq (aa 4)) (eB (PW.pt (jF (fc (aw (aw (aa 6) af) af)) (kF (pd (aw (aw (aa 6) af) af) (aa 4)))))))) (au (aI 4 nz.nd (aw (aw (aa 6) af) af))) aK)
    (au (aJ (PW.pt (cI (dq (aa 5)) (eB (PW.pt (jF (fc (aw (aw (aa 6) af) af)) (kF (nj (aw (aw (aa 6) af) af) (aa 5)))))))) (au (aI 5 nz.nd (aw (aw (aa 6) af) af))) aK))) aK)))
  (au (aA (bb (ae (aa 4) (ae (aa 5) ag)))))))),?_⟩
 have hl:=hP.len;refine aH (λσ H1=>σ=[some (.ref bg),some (.ref b),some (.str k),some (.int t),some (ev lo),none,none]/\H1=H) (λN hN=>?_) ?_
 .rfl';exact aq hg rfl (hN _ _ ⟨rfl,rfl⟩)
 rintro _ yR σ H1 ⟨rfl,rfl⟩;subst yR;refine aH (sZ H1 bg b lo hi ps k t 0) (λN hN=>?_) ?_
 .rfl';exact aq hg rfl (hN _ _ ⟨_,rfl,rfl⟩)
 rintro _ yR σ H ⟨e1,rfl,rfl⟩;subst yR;refine aH (sZ H bg b lo hi ps k t xs.length) (λN hN=>?_) ?_
 .rfl';refine⟨⟨_,hX⟩,kR (xs:=xs) (sZ H bg b lo hi ps k t) ⟨_,rfl,rfl⟩ ?_ ?_ ?_⟩
  .rintro i σ H1 _ ⟨_,_,rfl⟩;exact hX
  .rintro i x σ H1 hx ⟨e1,rfl,rfl⟩;obtain⟨p,hp,tp,sp,rfl,h1,h2⟩:=hP.get hx;have es:=UT (k:=k) (t:=t) hp;rfl';refine aq (aj.of h1) (v:=.str p.1) rfl ?_;rfl';have skip:iB k t p=false->sZ H1 bg b lo hi ps k t (i+1) [some (.ref bg),some (.ref b),some (.str k),some (.int t),some (ev (aZ (lo,hi) (sel (ps.take i) k t)).1),some (ev (aZ (lo,hi) (sel (ps.take i) k t)).2),some (.ref tp)] H1:=λhz=>⟨_,by rw[es,hz,if_neg Y3,acz],rfl⟩
   by_cases hk:p.1=k
   .rw[if_pos (by rw[hk])];refine aq (aj.of h1) (v:=.int p.2.1) rfl ?_;rfl';refine aT (λht=>?_) λht=>?_
    .have hz:iB k t p=true:=by unfold iB;rw[decide_eq_true hk,decide_eq_true ht];rfl
     rw[hz,if_pos rfl] at es;have fin:sZ H1 bg b lo hi ps k t (i+1) [some (.ref bg),some (.ref b),some (.str k),some (.int t),some (ev (di (aZ (lo,hi) (sel (ps.take i) k t)).1 p.2.2.1)),some (ev (dj (aZ (lo,hi) (sel (ps.take i) k t)).2 p.2.2.2)),some (.ref tp)] H1:=⟨_,by rw[es,UU],rfl⟩
     generalize (aZ (lo,hi) (sel (ps.take i) k t)).1=x at fin ⊢;generalize (aZ (lo,hi) (sel (ps.take i) k t)).2=y at fin ⊢;obtain⟨pk,pt,pa,pc⟩:=p;dsimp only at fin h1 h2 ⊢;rcases pa with _|pa<;>rcases pc with _|pc<;>rcases x with _|x<;>rcases y with _|y
     all_goals repeat' first
      | exact fin
      | refine aq (aj.of h2) rfl ?_
      | refine aq (aj.of h1) (v:=.ref sp) rfl ?_
      | (walk_at "p")
      | (refine aT (λhc=>?_) λhc=>?_)
     all_goals (simp only[di,dj] at fin;repeat' split at fin)
     all_goals first|exact fin|(exfalso;lia)
    .refine skip ?_;unfold iB;rw[decide_eq_false ht,ags]
   .rw[if_neg hk];refine skip ?_;unfold iB;rw[decide_eq_false hk,acY]
  .rintro σ H1 h;exact hN _ _ h
 rintro _ yR σ H1 ⟨e1,rfl,rfl⟩;subst yR;rw[hl,aaz];rfl';exact⟨br,λp hp=>q _ _ (ax hp) ⟨p,rfl,az⟩⟩
inductive UX(K:Yu)(B:YN)(vs:List V)(H:Hp)(Q:VK)(aQ:XK):Prop
 | mk(x p:YN)(e t u d m i:Int)(tb:Tb)(_:vs=[.ref x,.int i])(_:cb B H x e t u d m p tb)(_:(tb.map (·.1)).Nodup)(_:tb.length<64)(_:(∀ r∈tb,0<=r.1.2))(_:∀ l ys H',ak H H'->H l=none->H' l=some (.lst ys)->ay (dI H') ys (lr tb i)->Q (.ref l) H')
theorem UY(T:Tx K mg):Ok P w base 2 T.sd (UX K T.aL):=by
 refine aY Hl ?_;rintro _ _ _ s H _ Q _ hr ⟨x,p,e,t,u,d,m,i,tb,rfl,hb,fH,bH,h0,q⟩;refine⟨_,(au (aA (DD (g:=mj K 3 (dM (cJ 0) (dM (cJ 1) (dM (cJ 2) kH)))) (kY.mk (own:=["teller","turn","word"]) (fr:=[1]) (ys:=["eye"]) rfl (by decide +kernel) rfl (by decide +kernel) rfl (.cons rfl .nil) (.cons rfl rfl rfl rfl .nil) rfl) rfl (cC (Cs (aa 0) T.bI T.HV (Ik T) (hr.mono (by decide)) T.kx.b .nil bX)) (λC s2 H2 ex pn=>kJ (n:=3) rfl (dS (iX (i:=0) (show (["teller","turn","word","eye"]:List Str).Nodup by decide) rfl (.inl (Zm rfl)) (.inr (Zm rfl))) (dS (iX (i:=1) (show (["teller","turn","word","eye"]:List Str).Nodup by decide) rfl (.inl (Zm rfl)) (.inr (Zm rfl))) (dS (iX (i:=2) (show (["teller","turn","word","eye"]:List Str).Nodup by decide) rfl (.inl (Zm rfl)) (.inr (Zm rfl))) kI)))) (λC s2 H2 ex pn=>⟨(gN (b9 (aa 0) (aa 3))),(bb (ae (aa 1) (ae (aa 2) ag)))⟩)))),?_⟩;obtain⟨⟨dx,hx⟩,htb⟩:=id hb;rfl';refine⟨_,_,hx,rfl,x,p,e,t,u,d,m,tb,rfl,hb,fH,bH,λl xs H1 s1 _ hl hT=>?_⟩;have tl:=hT.len;rw[mR] at tl;refine⟨l,rfl,⟨_,ah.of hl⟩,Fz (row:=rowOf H1) (YE (by lia:xs.length<=64) (by decide)) (uZ (R:=λ_ x (r:P2 × S2)=>jn H1 x r) (R':=dI) (p:=λr=>decide (r.1.1=i)) (f:=λr=>(r.1.2.toNat,r.2)) (λ_ _ _ _ _ h=>h) (λ_ _ _ _ s' h=>h.same s') hT (bs:=[]) trivial (λH' s'=>FF hl hT s') (λx r _ H2 s2 h1 Q h=>?_) (λx r bQ hp H2 s2 h1 Q h=>?_) λH2 zs s2 hz=>?_)⟩
 .obtain⟨ta,w,rfl,ha,hw⟩:=h1;unfold mY;dsimp only;rw[qK ha];rfl';exact vk (Q:=λk=>Q k H2) h
 .obtain⟨ta,w,rfl,ha,wp,rfl,hw⟩:=h1;unfold mZ;dsimp only;rw[qK ha];rfl';have cT:=h0 r (qH bQ);refine⟨br,λt1 kC=>h _ _ (ax kC) ⟨t1,wp,rfl,?_,(ax kC) _ _ (s2 _ _ hw)⟩⟩;rw[az];show some (HO.tup [.int r.1.2,.ref wp])=some (.tup [.int ((r.1.2.toNat:Nat):Int),.ref wp]);rw[aao cT]
 .rw[YY] at hz;intro l2 bp;exact q l2 zs _ (s1.trans (s2.trans (ax bp))) ((s1.trans s2).free bp) az (hz.imp λ_ _ r=>r.same (ax bp))
inductive UZ(K:Yu)(B:YN)(vs:List V)(H:Hp)(Q:VK)(aQ:XK):Prop
 | mk(x p o:YN)(e t u d m:Int)(tb:Tb)(es:List Int)(_:vs=[.ref x,.ref o])(_:cb B H x e t u d m p tb)(_:(tb.map (·.1)).Nodup)(_:tb.length<64)(_:(∀ r∈tb,0<=r.1.2))(_:ah K H o (es.map V.int))(_:es.length<=100)(_:∀ l ys H',ak H H'->H' l=some (.lst ys)->ay (dI H') ys (((lj tb).filter λr=>!es.contains r.1.1).map λr=>(r.1.2.toNat,r.2))->Q (.ref l) H')
theorem Iy(T:Tx K mg):Ok P w base 2 T.se (UZ K T.aL):=by
 refine aY Hm ?_;rintro _ _ _ s H _ Q _ hr ⟨x,p,o,e,t,u,d,m,tb,es,rfl,hb,fH,bH,h0,ho,qQ,q⟩;refine⟨_,(au (aA (DD (g:=mj K 3 (dM (cJ 0) (dM (cJ 1) (dM (cJ 2) kH)))) (kY.mk (own:=["teller","turn","word"]) (fr:=[1]) (ys:=["some"]) rfl (by decide +kernel) rfl (by decide +kernel) rfl (.cons rfl .nil) (.cons rfl rfl rfl rfl .nil) rfl) rfl (cC (Cs (aa 0) T.bI T.HV (Ik T) (hr.mono (by decide)) T.kx.b .nil bX)) (λC s2 H2 ex pn=>kJ (n:=3) rfl (dS (iX (i:=0) (show (["teller","turn","word","some"]:List Str).Nodup by decide) rfl (.inl (Zm rfl)) (.inr (Zm rfl))) (dS (iX (i:=1) (show (["teller","turn","word","some"]:List Str).Nodup by decide) rfl (.inl (Zm rfl)) (.inr (Zm rfl))) (dS (iX (i:=2) (show (["teller","turn","word","some"]:List Str).Nodup by decide) rfl (.inl (Zm rfl)) (.inr (Zm rfl))) kI)))) (λC s2 H2 ex pn=>⟨(gN (iZ (Nr (K:=K) rfl) (aa 0) (aa 3) (by with_unfolding_all rfl))),(bb (ae (aa 1) (ae (aa 2) ag)))⟩)))),?_⟩;obtain⟨⟨dx,hx⟩,htb⟩:=id hb;rfl';refine⟨_,_,hx,rfl,x,p,e,t,u,d,m,tb,rfl,hb,fH,bH,λl xs H1 s1 _ hl hT=>?_⟩;have tl:=hT.len;rw[mR] at tl;refine⟨l,rfl,⟨_,ah.of hl⟩,Fz (row:=rowOf H1) (YE (by lia:xs.length<=64) (by decide)) (uZ (R:=λ_ x (r:P2 × S2)=>jn H1 x r) (R':=dI) (p:=λr=>!es.contains r.1.1) (f:=λr=>(r.1.2.toNat,r.2)) (λ_ _ _ _ _ h=>h) (λ_ _ _ _ s' h=>h.same s') hT (bs:=[]) trivial (λH' s'=>FF hl hT s') (λx r _ H2 s2 h1 Q h=>?_) (λx r bQ hp H2 s2 h1 Q h=>?_) λH2 zs s2 hz=>?_)⟩
 .obtain⟨ta,w,rfl,ha,hw⟩:=h1;unfold mY;dsimp only;rw[qK ha];rfl';refine⟨o,_,rfl,.inl ((s1.trans s2).seq ho),rfl,FE es,_,rfl,?_⟩;rw[yJ,if_pos rfl];exact h
 .obtain⟨ta,w,rfl,ha,wp,rfl,hw⟩:=h1;unfold mZ;dsimp only;rw[qK ha];rfl';have cT:=h0 r (qH bQ);refine⟨br,λt1 kC=>h _ _ (ax kC) ⟨t1,wp,rfl,?_,(ax kC) _ _ (s2 _ _ hw)⟩⟩;rw[az];show some (HO.tup [.int r.1.2,.ref wp])=some (.tup [.int ((r.1.2.toNat:Nat):Int),.ref wp]);rw[aao cT]
 .rw[YY] at hz;intro l2 bp;exact q l2 zs _ (s1.trans (s2.trans (ax bp))) az (hz.imp λ_ _ r=>r.same (ax bp))
inductive pJ(H:Hp)(v:V)(r:Gp):Prop
 | mk(g k:YN)(zs:List V)(_:v = .ref g)(_:H g=some (.tup [ev r.1,.ref k]))(_:H k=some (.lst zs))(_:ay (dI H) zs r.2)
theorem pJ.same(h:pJ H v r)(s:ak H H'):pJ H' v r:=let ⟨g,k,zs,e,a,b,c⟩:=h;⟨g,k,zs,e,s _ _ a,s _ _ b,c.imp λ_ _ x=>x.same s⟩
inductive U0(K:Yu)(B:YN)(vs:List V)(H:Hp)(Q:VK)(aQ:XK):Prop
 | mk(x p:YN)(e t u d m:Int)(tb:Tb)(_:vs=[.ref x])(_:cb B H x e t u d m p tb)(_:(tb.map (·.1)).Nodup)(_:tb.length<64)(_:(∀ r∈tb,0<=r.1.2))(_:0<=e)(_:e<=7)(_:∀ l ys H',ak H H'->H l=none->H' l=some (.lst ys)->ay (pJ H') ys ((qT e.toNat tb).map λr=>(some r.1,r.2))->Q (.ref l) H')
theorem U1(T:Tx K mg):Ok P w base 3 T.sf (U0 K T.aL):=by
 refine aY Hn ?_;rintro _ _ _ s _ _ Q _ hr ⟨x,p,e,t,u,d,m,tb,rfl,hb,fH,bH,bQ,h0,h7,q⟩;refine⟨_,(au (aA (cN (bC.mk (fr:=[0]) (ys:=["board"]) rfl (by decide +kernel) rfl (by decide +kernel) rfl rfl (.cons rfl .nil) (.cons rfl rfl rfl rfl .nil) (by decide) rfl) rfl (ft rfl T.dt (ae (eN rfl (aa 0) rfl) ag)) (λC s2 H2 ex pn=>⟨cQ,(bb (ae (aa 0) (ae (aE (UY T) hr (ae (aa 1) (ae (aa 0) ag))) ag)))⟩)))),?_⟩;obtain⟨⟨dx,hx⟩,hp⟩:=id hb;rfl';refine⟨_,_,_,hx,T.bI,T.pG,_,rfl,?_⟩;refine⟨e,rfl,by lia,by lia,bS ir (by rw[Yw,YQ];exact YE (by lia:_<=12) (by decide)) (fB (R:=λ_ x (k:Nat)=>x=V.int ((0:Int)+k)) (R':=pJ) (f:=λ(k:Nat)=>((some (k:Int),lr tb (k:Int)):Gp)) (λ_ _ _ _ _ h=>h) (λ_ _ _ _ s' h=>h.same s') (ay.fP _) (bs:=[]) trivial (λ_ _=>trivial) (λx k _ H2 s2 r Q h=>?_) (λx k _ H2 s2 r Q h=>?_) λH2 zs s2 hz=>?_)⟩
 .rfl';exact h
 .subst r;rfl';rw[abP];refine⟨x,p,e,t,u,d,m,(k:Int),tb,rfl,hb.same s2,fH,bH,bQ,λl ys H3 s3 _ hl hM=>⟨br,λg hg=>?_⟩⟩;have u1:=ax (o:=.tup [.int (k:Int),.ref l]) hg;exact h _ _ (s3.trans u1) ⟨g,l,ys,rfl,az,u1 _ _ hl,hM.imp λ_ _ x=>x.same u1⟩
 .intro l hl;rw[YY] at hz;refine q l zs _ (s2.trans (ax hl)) (s2.free hl) az ?_;unfold qT;rw[ZG];exact hz.imp λ_ _ r=>r.same (ax hl)
inductive U2(K:Yu)(vs:List V)(H:Hp)(Q:VK)(aQ:XK):Prop
 | mk(v u:V)(s:S2)(p:P2)(_:vs=[v,u])(_:aG H v s.1 s.2)(_:dh H u p)(_:∀ r H',ak H H'->H r=none->H' r=some (.tup [ev (dY s p).1,ev (dY s p).2])->Q (.ref r) H')
theorem Iz(T:Tx K mg):Ok P w base 1 T.rO (U2 K):=by
 refine aY vy ?_;rintro _ _ _ _ _ _ _ _ hr ⟨v,u,⟨lo,hi⟩,⟨p1,p2⟩,rfl,⟨a,rfl,ha⟩,⟨b,rfl,hb⟩,q⟩;refine⟨_,(ar (aI 2 vy.nd (jG (dq (aw (aa 0) af)) bJ (aF bG (aw (aa 0) af) (aw (aa 1) af))))
  (ar (aI 3 vy.nd (jG (dq (aw (aa 0) af)) bJ (aF bG (aw (aa 0) af) (aw (aa 1) af))))
  (au (aA (bb (ae (aa 2) (ae (aa 3) ag))))))),?_⟩
 rcases lo with _|lo<;>rcases hi with _|hi
 all_goals simp only[uE,uF] at ha
 all_goals
  rfl'
  repeat' first
  | refine aq (aj.of ha) rfl ?_
  | refine aq (aj.of hb) rfl ?_
  | (walk_at "p")
 all_goals exact⟨br,λr hr=>q r _ (ax hr) hr az⟩
theorem U3(h:ay (λv (s:S2)=>aG H v s.1 s.2) zs ss)(h0:0<ss.length):∃ v,cE zs (-1)=some v/\aG H v (bc ss (ss.length-1)).1 (bc ss (ss.length-1)).2:=by
 have hl:=h.len;obtain⟨v,hv,r⟩:=h.at (Yx (l:=ss) (i:=ss.length-1) (by lia));have e:zs=zs.take (ss.length-1)++[v]:=by have:=aaT (ss.length-1) zs;rw[ZS (by lia),ab1 (by lia)] at this;rw[Yx (by lia)] at hv;cases hv;exact this.symm
 refine⟨v,by rw[e];exact t4 _ _,?_⟩;unfold bc;rw[Yv,Yx (by lia)];exact r
inductive U4(K:Yu)(vs:List V)(H:Hp)(Q:VK)(aQ:XK):Prop
 | mk(a b:YN)(xs ys:List V)(ws:List W2)(ps:List P2)(_:vs=[.ref a,.ref b])(_:ah K H a xs)(_:ay (fF H) xs ws)(_:ah K H b ys)(_:eI H ys ps)(_:ws.length<=ps.length+1)(_:ws.length<=1000)(_:(∀ t,t<ws.length->aS (eM ws) (aB ps) t=none->∀ H',ak H H'->Q .non H'))(_:((∀ t,t<ws.length->aS (eM ws) (aB ps) t≠none)->∀ l zs ss H',ak H H'->H l=none->H' l=some (.lst zs)->ay (lq H') zs ss->ss.length=ws.length->(∀ t,t<ws.length->aS (eM ws) (aB ps) t=some (bc ss t))->Q (.ref l) H'))
inductive IA(H:Hp)(a b l:YN)(ws:List W2)(ps:List P2)(i:Nat)(σ:St)(H1:Hp):Prop
 | mk(zs:List V)(ss:List S2)(e1 e2 e3:Option V)(_:σ=[some (.ref a),some (.ref b),some (.ref l),e1,e2,e3])(_:ak H H1)(_:H1 l=some (.lst zs))(_:ay (lq H1) zs ss)(_:ss.length=i)(_:∀ t,t<i->aS (eM ws) (aB ps) t=some (bc ss t))
theorem IB(T:Tx K mg):Ok P w base 3 T.rP (U4 K):=by
 refine aY nq ?_;rintro _ _ _ _ H _ _ _ hr ⟨a,b,xs,ys,ws,ps,rfl,hS,hW,hT,hP,hl,hn,q0,q⟩;refine⟨_,(ar (aI 2 nq.nd (dB ag))
  (ar (cW Zk rfl (xO rfl T.vD (ae (aa 0) ag)) (kJ rfl (dS (ck 3 nq.nd) (dS (ck 4 nq.nd) kI))) (ar (aI 5 nq.nd (aa 4))
    (ar (aJ (PW.pt (jF (pd (aa 3) af) (kF (fc (aa 4))))) (au (aI 5 nq.nd (aE (A0 T) hr (ae (aa 4) (ae (aE (Iz T) hr (ae (aw (aa 2) (fu fJ af)) (ae (aw (aa 1) (aF dn (aa 3) af)) ag))) ag))))) aK)
    (ar (aJ (dq (aa 5)) (au (aA bJ)) aK)
    (au (fo (ja ZP aae aaf n9 (aa 2) (ae (aa 5) ag))))))))
  (au (aA (aa 2))))),?_⟩
 have l1:=hW.len;have l2:=hP.len;rfl';refine⟨by decide,λl fM=>?_⟩;have s1:=ax (o:=.lst []) fM;have e1:upd H l (.lst []) l=some (.lst []):=az;generalize upd H l (.lst [])=H1 at s1 e1 ⊢;rfl';refine⟨⟨_,s1.seq hS⟩,xU (xs:=xs) (IA H a b l ws ps) ⟨[],[],_,_,_,rfl,s1,e1,trivial,rfl,λt h=>absurd h (aat _)⟩ ?_ ?_ ?_⟩
 .rintro i σ H2 _ ⟨_,_,_,_,_,_,s2,_⟩;exact s2.seq hS
 .rintro i x σ H2 p hx ⟨zs,ss,d1,d2,d3,rfl,s2,bp,hz,hlen,fN⟩ hp;obtain⟨w,hw,r⟩:=hW.get hx;have sp:=ax (o:=.tup [.int i,x]) hp;refine oy (aj.of az) ?_;generalize upd H2 p (.tup [.int i,x])=H3 at sp ⊢;have s3:=s2.trans sp;have r3:=r.same s3;have cA:=sp _ _ bp;have cY:=hz.imp λ_ _ r=>aG.same r sp;have zl:=hz.len;have ew:eM ws i=w:=by unfold eM;rw[Yv,hw];rfl
  have hi:=(YC.mp hx).1;have add:∀ (v:V) (k:S2) (H4:Hp) (d1 d2 d3:Option V),ak H3 H4->aG H4 v k.1 k.2->aS (eM ws) (aB ps) i=some k->IA H a b l ws ps (i+1) [some (.ref a),some (.ref b),some (.ref l),d1,d2,d3] (upd H4 l (.lst (zs++[v]))):=λv k H4 d1 d2 d3 s4 hv ek=>by
   have nI:=s4 _ _ cA;refine⟨zs++[v],ss++[k],d1,d2,d3,rfl,jN fM (s3.trans s4),az,?_,by rw[YJ,YR,hlen],λt ht=>?_⟩
   .exact ((cY.imp λ_ _ r=>aG.same r s4).snoc hv).imp λ_ _ r=>aG.put r nI
   .unfold bc;rw[Yv];by_cases e:t=i
    .subst e;rw[ek,ZD (by lia),hlen,acW];rfl
    .rw[fN t (by lia),Zx (by lia)];unfold bc;rw[Yv]
  cases w with
  | none =>
   obtain rfl:x = .non:=r3;have e0:aS (eM ws) (aB ps) i=none:=by
    cases i with
    | zero=>exact ew
    | succ i=>unfold aS;rw[ew]
   rfl';have fin:=q0 i (by lia) e0 _ s3;exact aT (λ_=>fin) λ_=>fin
  | some k =>
   obtain⟨rp,rfl,hrp⟩:=id (show aG H3 x k.1 k.2 from r3);cases i with
   | zero =>
    rfl';exact⟨.inl ⟨rfl,_,ah.of cA⟩,_,cA,ZL (by lia:zs.length<=1000) (by decide),add _ k _ _ _ _ (ak.refl _) r3 ew⟩
   | succ i =>
    rfl';rw[if_pos (by lia)];obtain⟨v,hv,rv⟩:=U3 (ss:=ss) cY (by lia);obtain⟨u,hu,ru⟩:=hP.at (Yx (l:=ps) (i:=i) (by lia));have ep:ps[i]'(by lia)=aB ps i:=by unfold aB;rw[Yv,Yx (by lia)];rfl
    rw[ep] at ru;rw[show (((i+1:Nat):Int)-1)=((i:Nat):Int) by lia];refine bq (ah.of cA) hv (bq (s3.seq hT) (cF hu) ?_);rw[hlen,ae7] at rv;refine⟨v,u,bc ss i,aB ps i,rfl,rv,ru.same s3,λr H4 s4 _ U5=>?_⟩;refine⟨_,_,k.1,k.2,_,_,rfl,⟨rp,rfl,s4 _ _ hrp⟩,⟨r,rfl,U5⟩,λy H5 s5 hy=>?_⟩;have ek:=fN i (by lia);have en:aS (eM ws) (aB ps) (i+1)=gB k (dY (bc ss i) (aB ps i)):=by
     show (match eM ws (i+1),aS (eM ws) (aB ps) i with
      | some b,some k=>gB b (dY k (aB ps i))
      | _,_=>none)=_
     rw[ew,ek]
    have nJ:=(s4.trans s5) _ _ cA;unfold gB at en;cases hc:aO (di k.1 (dY (bc ss i) (aB ps i)).1) (dj k.2 (dY (bc ss i) (aB ps i)).2) with
    | true =>
     rw[if_pos hc] at en;obtain rfl:=hy.1 hc;rfl';exact q0 (i+1) (by lia) en _ (s3.trans (s4.trans s5))
    | false =>
     rw[if_neg (by rw[hc];simp)] at en;have vP:=hy.2 hc;obtain⟨yp,rfl,hyp⟩:=id vP;rfl';exact⟨.inl ⟨rfl,_,ah.of nJ⟩,_,nJ,ZL (by lia:zs.length<=1000) (by decide),add _ _ _ _ _ _ (s4.trans s5) vP en⟩
 .rintro σ H2 ⟨zs,ss,d1,d2,d3,rfl,s2,bp,hz,hlen,fN⟩;rfl';rw[l1] at hlen fN;exact q (λt ht=>by rw[fN t ht];simp) l zs ss H2 s2 fM bp hz hlen fN
inductive U6(K:Yu)(vs:List V)(H:Hp)(Q:VK)(aQ:XK):Prop
 | mk(a:YN)(xs:List V)(ms:List Mk)(t:Nat)(_:vs=[.ref a,.int t])(_:ah K H a xs)(_:ay (dI H) xs ms)(_:ms.length<=1000)(_:∀ l ys H',ak H H'->H' l=some (.lst ys)->aP H' ys (atT ms t)->Q (.ref l) H')
theorem U7(T:Tx K mg):Ok P w base 1 T.rQ (U6 K):=by
 refine aY Hf ?_;rintro _ _ _ s H _ Q _ _ ⟨a,xs,ms,t,rfl,hS,hM,hn,q⟩;refine⟨_,(au (aA (cN (bC.mk (fr:=[1]) (ys:=["turn"]) rfl (by decide +kernel) rfl (by decide +kernel) rfl rfl (.cons rfl .nil) (.cons rfl rfl rfl rfl .nil) (by decide) rfl) rfl (cC (aa 0)) (λC s2 H2 ex pn=>⟨(gN (b9 (cz (K:=K) (aa 0) af) (aa 1))),(cz (K:=K) (aa 0) af)⟩)))),?_⟩;have hl:=hM.len;rfl';refine⟨⟨_,hS⟩,bS fA (YE (by lia:xs.length<=1000) (by decide)) (mS (R:=dI H) (R':=λv (s:S2)=>aG H v s.1 s.2) (p:=λm=>decide (m.1=t)) (f:=λm=>m.2) hS hM (λx m r Q h=>?_) (λx m hp r Q h=>?_) λzs hz=>?_)⟩
 .obtain⟨tp,sp,rfl,h1,h2⟩:=r;rfl';refine aq (aj.of h1) rfl ?_;rfl';refine vk (Q:=λk=>Q k H) ?_;rw[show decide ((m.1:Int)=(t:Int))=decide (m.1=t) from decide_eq_decide.mpr (by lia)];exact h
 .obtain⟨tp,sp,rfl,h1,h2⟩:=r;rfl';exact aq (aj.of h1) rfl (h _ ⟨sp,rfl,h2⟩)
 .rw[YY];intro l hl;exact q l zs _ (ax hl) az (gA.mpr (hz.imp λ_ _ r=>r.same (ax hl)))
theorem ay.rev:∀ {xs:List V} {as:List α},ay R xs as->ay R xs.reverse as.reverse
 | [],[],_=>trivial
 | x::xs,a::as,h=>by rw[ab6,ab6];exact (ay.rev h.2).app ⟨h.1,trivial⟩
 | [],_::_,h=>h.elim
 | _::_,[],h=>h.elim
inductive IC(K:Yu)(vs:List V)(H:Hp)(Q:VK)(aQ:XK):Prop
 | mk(a b:YN)(xs ys:List V)(ps:List P2)(ms:List Mk)(_:vs=[.ref a,.ref b])(_:ah K H a xs)(_:eI H xs ps)(_:ah K H b ys)(_:ay (dI H) ys ms)(_:cS ps)(_:ps.length<=900)(_:ms.length<=1000)(_:(∀ t,t<=ps.length->aS (bB ms) (aB ps) t=none->∀ H',ak H H'->Q .non H'))(_:((∀ t,t<=ps.length->aS (bB ms) (aB ps) t≠none)->∀ l zs ss H',ak H H'->H l=none->H' l=some (.lst zs)->ay (lq H') zs ss->ss.length=ps.length+1->(∀ t,t<=ps.length->cj ps.length (bB ms) (aB ps) t=some (bc ss t))->Q (.ref l) H'))
theorem ID(T:Tx K mg):Ok P w base 4 T.rR (IC K):=by
 refine aY vz ?_;rintro _ _ _ s H _ Q _ hr ⟨a,b,xs,ys,ps,ms,rfl,hS,hP,hT,hM,ao,hn,hm,q0,q⟩;refine⟨_,(ar (aI 2 vz.nd (aE (IB T) hr (ae (cN (bC.mk (fr:=[1]) (ys:=["marks"]) rfl (by decide +kernel) rfl (by decide +kernel) rfl rfl (.cons rfl .nil) (.cons rfl rfl rfl rfl .nil) (by decide) rfl) rfl (ft rfl T.dt (ae (aF bG (a9 cK (by rfl) T.cp cf (ae (aa 0) ag)) af) ag)) (λC s2 H2 ex pn=>⟨cQ,(aE (A6 T) hr (ae (aE (U7 T) hr (ae (aa 1) (ae (aa 0) ag))) ag))⟩)) (ae (aa 0) ag))))
  (ar (aJ (dq (aa 2)) (au (aA bJ)) aK)
  (ar (jU (i:=3) (bC.mk (fr:=[]) (ys:=[]) rfl (by decide +kernel) rfl (by decide +kernel) rfl rfl .nil .nil (by decide) rfl) rfl vz.nd rfl rfl (NH rfl T.SW (ae (aa 0) ag)) (λC s2 H2 ex pn=>⟨cQ,(bb (ae (fu fJ (cz (K:=K) (aa 0) af)) (ae (fu fJ (cz (K:=K) (aa 0) af)) ag)))⟩))
  (au (aA (FC (aE (IB T) hr (ae (FC (aa 2) (fu fJ af)) (ae (aa 3) ag))) (fu fJ af))))))),?_⟩
 have l1:=hP.len;rfl';refine⟨_,dO hS,by lia,by lia,?_⟩;rw[l1,show ((ps.length:Int)+1).toNat=ps.length+1 by lia];refine bS ir (by rw[Yw,YQ];exact YE (by lia:_<=901) (by decide)) (fB (R:=λ_ x (k:Nat)=>x=V.int ((0:Int)+k)) (R':=fF) (f:=λ(k:Nat)=>bB ms k) (λ_ _ _ _ _ h=>h) (λ_ _ _ _ s' h=>h.same s') (ay.fP _) (bs:=[]) trivial (λ_ _=>trivial) (λx k _ H2 s2 r Q h=>?_) (λx k _ H2 s2 r Q h=>?_) λH2 zs s2 hz=>?_)
 .rfl';exact h
 .subst r;rfl';rw[show (0:Int)+(k:Nat)=((k:Nat):Int) by lia];refine⟨b,ys,ms,k,rfl,s2.seq hT,hM.imp λ_ _ r=>r.same s2,hm,λl zs H3 s3 hl hs=>?_⟩;refine⟨l,zs,_,rfl,ah.of hl,hs,?_,λv H4 s4 hv=>h H4 v (s3.trans s4) hv⟩;rw[hs.len];unfold atT;rw[Yw];exact YE (Ze _ _) hm
 rw[YY] at hz;intro c hc;have s3:=s2.trans (ax (o:=.lst zs) hc);have c3:upd H2 c (.lst zs) c=some (.lst zs):=az;have cY:=hz.imp λ_ _ r=>r.same (ax (o:=.lst zs) hc);generalize upd H2 c (.lst zs)=H3 at s3 c3 cY ⊢;clear hz hc s2;have wl:((Y1 (ps.length+1)).map λ(k:Nat)=>bB ms k).length=ps.length+1:=by rw[Yw,YQ]
 have we:∀ t,t<=ps.length->eM ((Y1 (ps.length+1)).map λ(k:Nat)=>bB ms k) t=bB ms t:=λt ht=>by unfold eM;rw[Yv,YF,Zb (by lia)];rfl
 have ne:∀ t,t<=ps.length->aS (eM ((Y1 (ps.length+1)).map λ(k:Nat)=>bB ms k)) (aB ps) t=aS (bB ms) (aB ps) t:=λt ht=>yF t (λk hk=>we k (by lia)) λk _=>rfl;refine⟨c,a,zs,xs,_,ps,rfl,ah.of c3,cY,s3.seq hS,hP.same s3,by rw[wl];exact YD _,by rw[wl];lia,λt ht en H4 s4=>?_,λa7 l kD ss H4 s4 _ hl nK jd fN=>?_⟩
 .rw[wl] at ht;rw[ne t (by lia)] at en;rfl';exact q0 t (by lia) en _ (s3.trans s4)
 rw[wl] at a7 fN jd;have IE:∀ t,t<=ps.length->aS (bB ms) (aB ps) t≠none:=λt ht z=>a7 t (by lia) (by rw[ne t ht];exact z);have U8:∀ t,t<ps.length+1->aS (bB ms) (aB ps) t=some (bc ss t):=λt ht=>by rw[<- ne t (by lia)];exact fN t ht
 have TB:=yH ao IE;have S4:=s3.trans s4;rfl';refine⟨xs,S4.seq hS,P9 (YE (by lia:_<=900) (by decide)) (fB (R:=dh) (R':=dh) (f:=λp=>(-p.2,-p.1)) (λ_ _ _ _ s' h=>h.same s') (λ_ _ _ _ s' h=>h.same s') (ay.rev (hP.same S4)) (bs:=[]) trivial (λH' s'=>(S4.trans s').seq hS) (λx k _ H2 s2 r Q h=>?_) (λx k _ H2 s2 r Q h=>?_) λH5 bs s5 hb=>?_)⟩
 .rfl';exact h
 .obtain⟨t,rfl,ht⟩:=r;rfl';refine aq (aj.of ht) rfl ?_;rfl';refine aq (aj.of ht) rfl ?_;rfl';exact⟨br,λp hp=>h _ _ (ax hp) ⟨p,rfl,az⟩⟩
 rw[YY] at hb;intro d hd;have s6:=s5.trans (ax (o:=.lst bs) hd);have d6:upd H5 d (.lst bs) d=some (.lst bs):=az;have IF:eI (upd H5 d (.lst bs)) bs (j7 ps):=hb.imp λ_ _ r=>r.same (ax (o:=.lst bs) hd);generalize upd H5 d (.lst bs)=H6 at s6 d6 IF ⊢;clear hb hd s5;refine⟨kD,ah.of (s6 _ _ hl),λp hp=>?_⟩;have s7:=s6.trans (ax (o:=.lst kD.reverse) hp);have p7:upd H6 p (.lst kD.reverse) p=some (.lst kD.reverse):=az;have d7:=(ax (o:=.lst kD.reverse) hp) _ _ d6;have IG:eI (upd H6 p (.lst kD.reverse)) bs (j7 ps):=IF.same (ax (o:=.lst kD.reverse) hp);generalize upd H6 p (.lst kD.reverse)=H7 at s7 p7 d7 IG ⊢;have rl:(ss.reverse.map some).length=ps.length+1:=by rw[Yw,aam,jd]
 have bl:(j7 ps).length=ps.length:=by unfold j7;rw[Yw,aam]
 have be:∀ t,t<=ps.length->aS (eM (ss.reverse.map some)) (aB (j7 ps)) t=cj ps.length (bB ms) (aB ps) (ps.length-t):=λt ht=>back_eq jd U8 ht;refine⟨p,d,_,bs,ss.reverse.map some,j7 ps,rfl,ah.of p7,ay.yu (ay.rev (nK.imp λ_ _ r=>aG.same r s7)),ah.of d7,IG,by rw[rl,bl];exact YD _,by rw[rl];lia,λt ht en H8 s8=>?_,λ_ l3 U9 Va H8 s8 Yi cA Vb Ba IH=>?_⟩
 .rw[rl] at ht;rw[be t (by lia)] at en;obtain⟨z,ez,_⟩:=TB.ok (ps.length-t) (by lia);rw[en] at ez;cases ez
 rw[rl] at Ba IH;have S8:=S4.trans (s7.trans s8);refine⟨l3,rfl,U9,ah.of cA,λp3 lZ=>q IE p3 _ Va.reverse _ (S8.trans (ax lZ)) (S8.free lZ) az (ay.rev (Vb.imp λ_ _ r=>aG.same r (ax lZ))) (by rw[aam,Ba]) λt ht=>?_⟩;rw[PR Ba ht,<- IH (ps.length-t) (by lia),be _ (by lia),show ps.length-(ps.length-t)=t by lia]
inductive Vc(K:Yu)(vs:List V)(H:Hp)(Q:VK)(aQ:XK):Prop
 | mk(a b:YN)(xs ys:List V)(ps:List P2)(ms:List Mk)(_:vs=[.ref a,.ref b])(_:ah K H a xs)(_:eI H xs ps)(_:ah K H b ys)(_:ay (dI H) ys ms)(_:cS ps)(_:ps.length<=900)(_:ms.length<=1000)(_:(∀ m∈ms,m.1<=ps.length))(_:((¬ ∃ c,d8 ps c/\meets ms c)->∀ H',ak H H'->Q .non H'))(_:(∀ l cs H',ak H H'->H l=none->H' l=some (.lst (cs.map V.int))->cs.length=ps.length+1->d8 ps (bM cs)->meets ms (bM cs)->Q (.ref l) H'))
inductive Vd(H:Hp)(a b x l c:YN)(zs:List V)(ss:List S2)(ps:List P2)(ms:List Mk)(i:Nat)(σ:St)(H1:Hp):Prop
 | mk(cs:List Int)(e1 e2:Option V)(_:σ=[some (.ref a),some (.ref b),some (.ref x),some (.ref l),e1,e2])(_:ak H H1)(_:H1 l=some (.lst (cs.map V.int)))(_:H1 c=some (.lst (zs.drop 1)))(_:ay (lq H1) zs ss)(_:cs.length=i+1)(_:(∀ t,t<=i->bP (cj ps.length (bB ms) (aB ps) t) (bM cs t)))(_:∀ k,k<i->(aB ps k).1<=bM cs (k+1)-bM cs k/\bM cs (k+1)-bM cs k<=(aB ps k).2)
theorem vQ(h:t<cs.length):bM (cs++[n]) t=bM cs t:=by unfold bM;rw[Yv,Yv,Zx h]
theorem II(h:cs.length=t):bM (cs++[n]) t=n:=by unfold bM;rw[Yv,ZD (by lia),h,acW];rfl
theorem Ve{cs:List Int}{i:Nat}(h:cs.length=i+1):cE (cs.map V.int) (-1)=some (.int (bM cs i)):=by
 have e:cs=cs.take i++[bM cs i]:=by have:=aaT i cs;rw[ZS (by lia),ab1 (by lia)] at this;unfold bM;rw[Yv,Yx (by lia)];exact this.symm
 have e2:cs.map V.int=(cs.take i).map V.int++[V.int (bM cs i)]:=(congrArg (List.map V.int) e).trans (by rw[Zd];rfl);rw[e2];exact t4 _ _
theorem IJ(h:aO s.1 s.2=false):bF s (j8 s):=yw.mpr (Qa h)
theorem IK(h:i<ss.length):ss[i]?=some (bc ss i):=by unfold bc;rw[Yv,Yx h];rfl
theorem Bb(h:i<ps.length):ps[i]?=some (aB ps i):=by unfold aB;rw[Yv,Yx h];rfl
theorem Vf(T:Tx K mg):Ok P w base 5 T.rS (Vc K):=by
 refine aY pA ?_;rintro _ _ _ s H _ _ _ hr ⟨a,b,xs,ys,ps,ms,rfl,hS,hP,hT,hM,ao,hn,hm,ht,q0,q⟩;refine⟨_,(ar (aI 2 pA.nd (aE (ID T) hr (ae (aa 0) (ae (aa 1) ag))))
  (ar (aJ (dq (aa 2)) (au (aA bJ)) aK)
  (ar (aI 3 pA.nd (dB (ae (aE (Ip T) hr (ae (aw (aa 2) af) ag)) ag)))
  (ar (cW Zk rfl (NM rfl T.SX (ae (aa 0) (ae (Ls LC (aa 2) (Lr af) Lq) ag))) (kJ rfl (dS (ck 4 pA.nd) (dS (ck 5 pA.nd) kI))) (au (fo (ja ZP aae aaf n9 (aa 3) (ae (aE (Ip T) hr (ae (aE (A0 T) hr (ae (aa 5) (ae (aE (Iz T) hr (ae (bb (ae (aw (aa 3) (fu fJ af)) (ae (aw (aa 3) (fu fJ af)) ag))) (ae (aa 4) ag))) ag))) ag)) ag)))))
  (au (aA (aa 3))))))),?_⟩
 have l1:=hP.len;rfl';refine⟨a,b,xs,ys,ps,ms,rfl,hS,hP,hT,hM,ao,hn,hm,λt ht en H1 s1=>?_,λa7 x zs ss H1 s1 fx hx hz jd fN=>?_⟩
 .rfl';refine q0 ?_ _ s1;rintro ⟨c,hc,ik⟩;exact Fw hc ik t ht en
 have TB:=yH ao a7;have zl:=hz.len;have Vg:∀ t,t<=ps.length->aO (bc ss t).1 (bc ss t).2=false:=λt ht=>by obtain⟨s,es,hs⟩:=TB.ok t ht;rw[fN t ht] at es;cases es;exact hs
 rfl';obtain⟨v0,Bc,r0⟩:=hz.at (IK (ss:=ss) (i:=0) (by lia));refine bq (ah.of hx) (cF (j:=0) Bc) ?_;refine⟨v0,bc ss 0,rfl,r0,by decide,λl fM=>?_⟩;have u1:=ax (o:=.lst [.int (j8 (bc ss 0))]) fM;have L1:upd H1 l (.lst [.int (j8 (bc ss 0))]) l=some (.lst ([j8 (bc ss 0)].map V.int)):=az;have fl:=s1.free fM;generalize upd H1 l (.lst [.int (j8 (bc ss 0))])=H2 at u1 L1 ⊢;refine⟨zs,ah.of (u1 _ _ hx),λc hc=>?_⟩;rw[show mx zs (some 1) none=zs.drop 1 from N1 zs 1];have u2:=ax (o:=.lst (zs.drop 1)) hc;have c3:upd H2 c (.lst (zs.drop 1)) c=some (.lst (zs.drop 1)):=az;have lc:l≠c:=λz=>by rw[<- z,L1] at hc;cases hc
 generalize upd H2 c (.lst (zs.drop 1))=H3 at u2 c3 ⊢;have S3:=s1.trans (u1.trans u2);refine⟨⟨_,S3.seq hS⟩,⟨_,ah.of c3⟩,NR (xs:=xs) (ys:=zs.drop 1) (Vd H a b x l c zs ss ps ms) ⟨[j8 (bc ss 0)],_,_,rfl,S3,u2 _ _ L1,c3,hz.imp λ_ _ r=>aG.same r (u1.trans u2),rfl,λt ht=>?_,λk hk=>absurd hk (aat _)⟩ ?_ ?_ ?_⟩
 .obtain rfl:t=0:=by lia
  exact⟨_,fN 0 (by lia),IJ (Vg 0 (by lia))⟩
 .rintro i σ H4 ⟨_,_,_,_,s4,_,c4,_⟩;exact⟨s4.seq hS,ah.of c4⟩
 .rintro i u v σ H4 p hu hv ⟨cs,d1,d2,rfl,s4,L4,c4,nM,aX,bK,cc⟩ hp;have hi:i<ps.length:=by have:=(YC.mp hu).1;lia
  obtain⟨pt,ept,ru⟩:=hP.get hu;rw[Bb hi] at ept;cases ept;rw[List.getElem?_drop,Nat.add_comm 1 i] at hv;obtain⟨sv,esv,rv⟩:=nM.get hv;rw[IK (by lia)] at esv;cases esv;refine oy (aj.of az) ?_;have up:=ax (o:=.tup [u,v]) hp;generalize upd H4 p (.tup [u,v])=H5 at up ⊢;have L5:=up _ _ L4;rfl';have lst:=Ve aX;refine⟨.inl ⟨rfl,_,ah.of L5⟩,bq (ah.of L5) lst (bq (ah.of L5) lst ⟨br,λt1 kC=>?_⟩)⟩;have ut:=ax (o:=.tup [.int (bM cs i),.int (bM cs i)]) kC;refine⟨.ref t1,u,(some (bM cs i),some (bM cs i)),aB ps i,rfl,⟨t1,rfl,az⟩,ru.same (s4.trans (up.trans ut)),λr H6 s6 _ Vh=>?_⟩;obtain⟨m,em,cv⟩:=PU TB hi (bK i (YD _)) (fN (i+1) (by lia));have Vi:=aG.same rv (up.trans (ut.trans s6));refine⟨v,.ref r,_,_,_,_,rfl,Vi,⟨r,rfl,Vh⟩,λy H7 s7 hy=>?_⟩;have cm:=Fl em;have IL:aO (di (bc ss (i+1)).1 (dY (some (bM cs i),some (bM cs i)) (aB ps i)).1) (dj (bc ss (i+1)).2 (dY (some (bM cs i),some (bM cs i)) (aB ps i)).2)=false/\m=(di (bc ss (i+1)).1 (dY (some (bM cs i),some (bM cs i)) (aB ps i)).1,dj (bc ss (i+1)).2 (dY (some (bM cs i),some (bM cs i)) (aB ps i)).2):=by
   unfold gB at em;split at em
   .cases em
   .rename_i hc;cases em;exact⟨by simpa using hc,rfl⟩
  have vP:=hy.2 IL.1;refine⟨y,m,rfl,by rw[IL.2];exact vP,?_⟩;have S7:=up.trans (ut.trans (s6.trans s7));have L7:=S7 _ _ L4;obtain⟨n1,n2,n3⟩:=cv _ (IJ cm);refine⟨_,L7,by rw[Yw];exact ZL (by lia:_<=1000) (by decide),cs++[j8 m],_,_,rfl,jN fl (s4.trans S7),by rw[az,Zd];rfl,by rw[aC (Zt lc)];exact S7 _ _ c4,nM.imp λ_ _ r=>aG.put (aG.same r S7) L7,by rw[YJ,YR];lia,λt ht=>?_,λk hk=>?_⟩
  .by_cases e:t=i+1
   .subst e;rw[II aX];exact n1
   .rw[vQ (by lia)];exact bK t (by lia)
  .by_cases e:k=i
   .subst e;rw[II aX,vQ (by lia)];exact⟨n2,n3⟩
   .rw[vQ (by lia),vQ (by lia)];exact cc k (by lia)
 .rintro σ H4 ⟨cs,d1,d2,rfl,s4,L4,c4,nM,aX,bK,cc⟩;rfl';rw[adK,show min xs.length (zs.length-1)=ps.length by lia] at aX bK cc;exact q l cs H4 s4 fl L4 aX cc (meets_of TB ht bK)
def dz(H:Hp)(v:V):Option P2->Prop
 | none=>v = .non
 | some p=>dh H v p
theorem dz.same(h:dz H v o)(s:ak H H'):dz H' v o:=by
 cases o with
 | none=>exact h
 | some p=>exact dh.same h s
inductive Vj(K:Yu)(vs:List V)(H:Hp)(Q:VK)(aQ:XK):Prop
 | mk(v u:V)(a b:Option P2)(_:vs=[v,u])(_:dz H v a)(_:dz H u b)(_:∀ x,dz H x (jo a b)->(x=v∨x=u)->Q x H)
theorem Be(T:Tx K mg):Ok P w base 1 T.rT (Vj K):=by
 refine aY Hg ?_;rintro _ _ _ _ H _ _ _ hr ⟨v,u,a,b,rfl,ha,hb,q⟩;refine⟨_,(ar (aJ (PW.pt (cI (dq (aa 0)) (eB (dq (aa 1))))) (au (aA (jG (dq (aa 0)) (aa 1) (aa 0)))) aK)
  (au (aA (a9 (QE rfl (eX hr)) (by rfl) T.vE ue (ae (aa 0) (ae (aa 1) ag)))))),?_⟩
 rcases a with _|a<;>rcases b with _|b
 .obtain rfl:v = .non:=ha;obtain rfl:u = .non:=hb;rfl';exact q _ rfl (.inl rfl)
 .obtain rfl:v = .non:=ha;obtain⟨r,rfl,cT⟩:=id hb;rfl';exact q _ hb (.inr rfl)
 .obtain rfl:u = .non:=hb;obtain⟨r,rfl,cT⟩:=id ha;rfl';exact q _ ha (.inl rfl)
 .obtain⟨r,rfl,cT⟩:=id ha;obtain⟨r2,rfl,Bf⟩:=id hb;rfl';refine⟨a,cT,b,Bf,?_⟩;by_cases hl:e9 b a=true
  .rw[if_pos hl];exact q _ (by show dh H _ (fb a b);unfold fb;rw[if_pos hl];exact hb) (.inr rfl)
  .rw[if_neg hl];exact q _ (by show dh H _ (fb a b);unfold fb;rw[if_neg hl];exact ha) (.inl rfl)
inductive Vk(K:Yu)(vs:List V)(H:Hp)(Q:VK)(aQ:XK):Prop
 | mk(v:V)(a:Option P2)(b:Int)(_:vs=[v,.int b])(_:dz H v a)(_:∀ x H',ak H H'->dz H' x (oT a b)->Q x H')
theorem IM(T:Tx K mg):Ok P w base 1 T.rV (Vk K):=by
 refine aY Hh ?_;rintro _ _ _ _ _ _ _ _ _ ⟨v,a,b,rfl,ha,q⟩;refine⟨_,(au (aA (jG (dq (aa 0)) bJ (bb (ae (aF bG (aw (aa 0) af) (aa 1)) (ae (aw (aa 0) af) ag)))))),?_⟩;rcases a with _|a
 .obtain rfl:v = .non:=ha;rfl';exact q _ _ (ak.refl _) rfl
 .obtain⟨r,rfl,cT⟩:=id ha;rfl';refine aq (aj.of cT) rfl ?_;rfl';refine aq (aj.of cT) rfl ⟨br,λp hp=>q _ _ (ax hp) ⟨p,rfl,az⟩⟩
inductive Vl(K:Yu)(vs:List V)(H:Hp)(Q:VK)(aQ:XK):Prop
 | mk(a b:YN)(xs ys:List V)(ps:List P2)(ms:List Mk)(_:vs=[.ref a,.ref b])(_:ah K H a xs)(_:eI H xs ps)(_:ah K H b ys)(_:ay (dI H) ys ms)(_:cS ps)(_:ps.length<=900)(_:ms.length<=1000)(_:(∀ m∈ms,m.1<=ps.length))(_:∀ l zs ts H',ak H H'->H l=none->H' l=some (.lst zs)->ay (dz H') zs ts->ts.length=ps.length+1->j5 ps ms (dk ts)->Q (.ref l) H')
inductive nN(P:Nat->(Nat->Option P2)->Prop)(H:Hp)(a b l:YN)(n:Nat)(i:Nat)(σ:St)(H1:Hp):Prop
 | mk(zs:List V)(ts:List (Option P2))(e1 e2 e3:Option V)(_:σ=[some (.ref a),some (.ref b),some (.ref l),e1,e2,e3])(_:ak H H1)(_:H1 l=some (.lst zs))(_:ay (dz H1) zs ts)(_:ts.length=n+1)(_:P i (dk ts))
theorem dz.put(h:dz H v o)(hl:H l=some (.lst ys)):dz (upd H l (.lst zs)) v o:=by
 cases o with
 | none=>exact h
 | some p=>exact dh.put h hl
theorem ay.IP{α:Type}{R:V->α->Prop}{x:V}{a:α}(r:R x a):∀ {xs:List V} {as:List α} (j:Nat),ay R xs as->ay R (xs.set j x) (as.set j a)
 | [],[],_,_=>trivial
 | _::_,_::_,0,h=>⟨r,h.2⟩
 | _::_,_::_,j+1,h=>⟨h.1,ay.IP r j h.2⟩
 | [],_::_,_,h=>h.elim
 | _::_,[],_,h=>h.elim
theorem pK(h:ay (dz H) zs ts)(ht:t<ts.length):∃ v,cE zs (t:Int)=some v/\dz H v (dk ts t):=by obtain⟨v,hv,r⟩:=h.at (Yx ht);refine⟨v,cF hv,?_⟩;unfold dk;rw[Yv,Yx ht];exact r
theorem Bg(h:t<n):gJ n (t:Int)=some t:=by unfold gJ;rw[if_pos (by lia),if_pos (by lia),Zq]
theorem Bh(fM:H l=none)(s:ak H H1)(hl:H1 l=some (.lst zs))(hz:ay (dz H1) zs ts)(hlen:ts.length=n+1)(hv:dz H1 v x)(ht:t<n+1)(hP:P i (jq (dk ts) t x)):nN P H a b l n i [some (.ref a),some (.ref b),some (.ref l),d1,d2,d3] (upd H1 l (.lst (zs.set t v))) :=
 ⟨zs.set t v,ts.set t x,d1,d2,d3,rfl,jN fM s,az,(ay.IP hv t hz).imp λ_ _ r=>r.put hl,by rw[aea];exact hlen,by rw[PV (by lia)];exact hP⟩
theorem Vm(n:Nat):k7 ((n:Int)-1) (-1) (-1)=n:=by unfold k7 Zw;simp only[show ¬ ((-1:Int) > 0) by lia,if_false,show (- (-1:Int))=1 by lia,ag3];split<;>lia
theorem Vn(T:Tx K mg):Ok P w base 2 T.rW (Vl K):=by
 refine aY nr ?_;rintro _ _ _ _ H _ Q _ hr ⟨a,b,xs,ys,ps,ms,rfl,hS,hP,hT,hM,ao,hn,hm,ht,q⟩;refine⟨_,(ar (jU (i:=2) (bC.mk (fr:=[]) (ys:=[]) rfl (by decide +kernel) rfl (by decide +kernel) rfl rfl .nil .nil (by decide) rfl) rfl nr.nd rfl rfl (ft rfl T.dt (ae (aF bG (a9 cK (by rfl) T.cp cf (ae (aa 0) ag)) af) ag)) (λC s2 H2 ex pn=>⟨cQ,bJ⟩))
  (ar (cW Zk rfl (xO rfl T.vD (ae (aa 1) ag)) (kJ rfl (dS (ck 3 nr.nd) (dS (ck 4 nr.nd) kI))) (au (aJ (fc (aw (aw (aa 4) af) af)) (au (tP (aE (Be T) hr (ae (aw (aa 2) (aw (aa 4) af)) (ae (bb (ae (aw (aw (aa 4) af) af) (ae (aa 3) ag))) ag))) (tN (aa 2) (aw (aa 4) af) set_list))) aK)))
  (ar (cW Zk rfl (ft rfl T.dt (ae (a9 cK (by rfl) T.cp cf (ae (aa 0) ag)) ag)) (ck 5 nr.nd) (au (tP (aE (Be T) hr (ae (aw (aa 2) (aF bG (aa 5) af)) (ae (aE (IM T) hr (ae (aw (aa 2) (aa 5)) (ae (aw (aw (aa 0) (aa 5)) af) ag))) ag))) (tN (aa 2) (aF bG (aa 5) af) set_list))))
  (ar (cW Zk rfl (NW rfl T.dt (ae (aF dn (a9 cK (by rfl) T.cp cf (ae (aa 0) ag)) af) (ae (fu fJ af) (ae (fu fJ af) ag)))) (ck 5 nr.nd) (au (tP (aE (Be T) hr (ae (aw (aa 2) (aa 5)) (ae (aE (IM T) hr (ae (aw (aa 2) (aF bG (aa 5) af)) (ae (fu fJ (aw (aw (aa 0) (aa 5)) af)) ag))) ag))) (tN (aa 2) (aa 5) set_list))))
  (au (aA (aa 2))))))),?_⟩
 have l1:=hP.len;have l2:=hM.len;refine aH (λσ H1=>∃ l,σ=[some (.ref a),some (.ref b),some (.ref l),none,none,none]/\ak H H1/\H l=none/\H1 l=some (.lst (Zp (ps.length+1) .non))) (λN hN=>?_) ?_
 .rfl';refine⟨_,dO hS,by lia,by lia,?_⟩;rw[l1,show ((ps.length:Int)+1).toNat=ps.length+1 by lia];refine bS ir (by rw[Yw,YQ];exact YE (by lia:_<=901) (by decide)) (oq (p:=λ_=>true) (f:=λ_=>.non) trivial (λx _ Q h=>?_) (λx _ _ Q h=>?_) ?_)
  .rfl';exact h
  .rfl';exact h
  rw[YY,filter_tt];intro l hl;refine hN _ _ ⟨l,rfl,ax hl,hl,?_⟩;rw[az]
  congr 2
  refine aa2 λk=>?_;rw[YF,YF,Z0];by_cases hk:k<ps.length+1
  .rw[Zb hk,if_pos hk];rfl
  .rw[ZF (by rw[YQ];lia),if_neg hk];rfl
 rintro _ yR σ H1 ⟨l,rfl,s1,fM,ki⟩;subst yR;refine aH (nN (T1 ps ms) H a b l ps.length ms.length) (λN hN=>?_) ?_
 .rfl';refine⟨⟨_,s1.seq hT⟩,xU (xs:=ys) (nN (T1 ps ms) H a b l ps.length) ⟨_,Zp (ps.length+1) none,_,_,_,rfl,s1,ki,?_,by rw[aar],by rw[PX];exact T1.nil⟩ ?_ ?_ ?_⟩
  .have:∀ k,ay (dz H1) (Zp k .non) (Zp k none):=λk=>by
    induction k with
    | zero=>exact trivial
    | succ k ih=>exact⟨rfl,ih⟩
   exact this _
  .rintro i σ H2 _ ⟨_,_,_,_,_,_,s2,_⟩;exact s2.seq hT
  .rintro i x σ H2 p hx ⟨zs,ts,d1,d2,d3,rfl,s2,bp,hz,gh,pL⟩ hp;obtain⟨m,nO,tp,sp,rfl,h1,h2⟩:=hM.get hx;have ik:=ht m (Y6 nO);have up:=ax (o:=.tup [.int i,.ref tp]) hp;refine oy (aj.of az) ?_;generalize upd H2 p (.tup [.int i,.ref tp])=H3 at up ⊢;have s3:=s2.trans up;have g1:=s3 _ _ h1;have g2:=s3 _ _ h2;have cA:=up _ _ bp;have cY:=hz.imp λ_ _ r=>r.same up;obtain⟨mt,lo,hi⟩:=m;rfl';refine aq (aj.of g1) rfl (aq (aj.of g2) rfl ?_);cases hi with
   | none =>
    rfl';exact⟨zs,ts,_,_,_,rfl,s3,cA,cY,gh,pL.skip nO rfl⟩
   | some h =>
    rfl';obtain⟨v,hv,rv⟩:=pK cY (t:=mt) (by dsimp only at ik;lia);refine aq (aj.of g1) rfl (bq (ah.of cA) hv (aq (aj.of g1) rfl (aq (aj.of g2) rfl ?_)));rfl';refine⟨br,λt1 kC=>?_⟩;have ut:=ax (o:=.tup [.int h,.int i]) kC;have S4:=s3.trans ut;refine⟨v,.ref t1,_,some (h,(i:Int)),rfl,rv.same ut,⟨t1,rfl,az⟩,λy hy _=>?_⟩;refine aq (aj.of (ut _ _ g1)) rfl ?_;exact⟨zs,_,rfl,ut _ _ cA,mt,Bg (by rw[hz.len,gh];dsimp only at ik;lia),Bh fM S4 (ut _ _ cA) (cY.imp λ_ _ r=>r.same ut) gh hy (by dsimp only at ik;lia) (pL.put nO rfl)⟩
  .rintro σ H2 h;rw[l2] at h;exact hN _ _ h
 rintro _ yR σ H2 h2;subst yR;refine aH (nN (T2 ps ms) H a b l ps.length ps.length) (λN hN=>?_) ?_
 .obtain⟨zs,ts,d1,d2,d3,rfl,s2,bp,hz,gh,pL⟩:=h2;rfl';refine⟨_,dO (s2.seq hS),?_⟩;rw[l1];refine⟨by lia,by lia,?_⟩;rw[Zq];refine kQ (nN (T2 ps ms) H a b l ps.length) ⟨zs,ts,d1,d2,d3,rfl,s2,bp,hz,gh,pL.two⟩ ?_ (λσ H3 h=>hN _ _ h);rintro i σ H3 hi ⟨zs,ts,d1,d2,d3,rfl,s3,cA,cY,gh,Vo⟩;have zl:=cY.len;obtain⟨v,hv,rv⟩:=pK cY (t:=i+1) (by lia);obtain⟨u,hu,ru⟩:=pK cY (t:=i) (by lia);obtain⟨w,hw,tw,rfl,Bi⟩:=hP.at (Bb hi);rfl';rw[show (0:Int)+(i:Int)=((i:Nat):Int) by lia,show ((i:Nat):Int)+1=((i+1:Nat):Int) by lia];refine bq (ah.of cA) hv (bq (ah.of cA) hu (bq (s3.seq hS) (cF hw) (aq (aj.of (s3 _ _ Bi)) rfl ?_)));refine⟨u,_,_,rfl,ru,λy H4 s4 hy=>?_⟩;refine⟨v,y,_,_,rfl,rv.same s4,hy,λz tf _=>?_⟩;exact⟨zs,s4 _ _ cA,i+1,Bg (by lia),Bh fM (s3.trans s4) (s4 _ _ cA) (cY.imp λ_ _ r=>r.same s4) gh tf (by lia) (Vo.step ao ht hi)⟩
 rintro _ yR σ H3 h3;subst yR;refine aH (nN (λi=>T3 ps ms (ps.length-i)) H a b l ps.length ps.length) (λN hN=>?_) ?_
 .obtain⟨zs,ts,d1,d2,d3,rfl,s2,bp,hz,gh,pL⟩:=h3;rfl';refine⟨_,dO (s2.seq hS),?_⟩;rw[l1,Vm];refine⟨by lia,by lia,N0 (nN (λi=>T3 ps ms (ps.length-i)) H a b l ps.length) ⟨zs,ts,d1,d2,d3,rfl,s2,bp,hz,gh,pL.three⟩ ?_ (λσ H3 h=>hN _ _ h)⟩;rintro i σ H3 hi ⟨zs,ts,d1,d2,d3,rfl,s3,cA,cY,gh,vR⟩;have zl:=cY.len;obtain⟨j,hj⟩:∃ j,ps.length=j+1+i:=⟨ps.length-1-i,by lia⟩
  obtain⟨v,hv,rv⟩:=pK cY (t:=j+1) (by lia);obtain⟨u,hu,ru⟩:=pK cY (t:=j) (by lia);obtain⟨w,hw,tw,rfl,Bi⟩:=hP.at (Bb (ps:=ps) (i:=j) (by lia));rfl';rw[show (ps.length:Int)-1+(i:Int) * -1=((j:Nat):Int) by lia,show ((j:Nat):Int)+1=((j+1:Nat):Int) by lia];refine bq (ah.of cA) hu (bq (ah.of cA) hv (bq (s3.seq hS) (cF hw) (aq (aj.of (s3 _ _ Bi)) rfl ?_)));rfl';refine⟨v,_,_,rfl,rv,λy H4 s4 hy=>?_⟩;refine⟨u,y,_,_,rfl,ru.same s4,hy,λz tf _=>?_⟩;refine⟨zs,s4 _ _ cA,j,Bg (by lia),Bh fM (s3.trans s4) (s4 _ _ cA) (cY.imp λ_ _ r=>r.same s4) gh tf (by lia) ?_⟩;show T3 ps ms (ps.length-(i+1)) _;rw[show ps.length-(i+1)=j by lia];have vR:T3 ps ms (ps.length-i) (dk ts):=vR;rw[show ps.length-i=j+1 by lia] at vR;exact vR.step ao ht (by lia)
 rintro _ yR σ H4 ⟨zs,ts,d1,d2,d3,rfl,s4,nI,nM,gh,IQ⟩;subst yR;rw[acW] at IQ;rfl';exact q l zs ts H4 s4 fM nI nM gh IQ.tops
inductive Vp(K:Yu)(vs:List V)(H:Hp)(Q:VK)(aQ:XK):Prop
 | mk(a b:YN)(zs ys:List V)(ts:List (Option P2))(ms:List Mk)(_:vs=[.ref a,.ref b])(_:ah K H a zs)(_:ay (dz H) zs ts)(_:ah K H b ys)(_:ay (dI H) ys ms)(_:(∀ m∈ms,m.1<ts.length))(_:(qJ ms (dk ts)->∀ H',ak H H'->Q .non H'))(_:(∀ (j:Nat) m l v k,ms[j]?=some m->m.2.1=some l->dk ts m.1=some (v,k)->v<l->∀ p H',ak H H'->H p=none->H' p=some (.tup [.int k,.int j])->Q (.ref p) H'))
inductive Vq(H:Hp)(a b:YN)(ts:List (Option P2))(ms:List Mk)(i:Nat)(σ:St)(H1:Hp):Prop
 | mk(e1 e2 e3:Option V)(_:σ=[some (.ref a),some (.ref b),e1,e2,e3])(_:ak H H1)(_:qJ (ms.take i) (dk ts))
theorem Vr(T:Tx K mg):Ok P w base 1 T.rX (Vp K):=by
 refine aY rn ?_;rintro _ _ _ _ H _ _ _ _ ⟨a,b,zs,ys,ts,ms,rfl,hA,hZ,hT,hM,ht,q0,q⟩;refine⟨_,(ar (cW Zk rfl (xO rfl T.vD (ae (aa 1) ag)) (kJ rfl (dS (ck 2 rn.nd) (dS (ck 3 rn.nd) kI))) (ar (aI 4 rn.nd (aw (aa 0) (aw (aa 3) af)))
  (au (aJ (PW.pt (jF (fc (aa 4)) (jF (fc (aw (aw (aa 3) af) af)) (kF (pd (aw (aw (aa 3) af) af) (aw (aa 4) af)))))) (au (aA (bb (ae (aw (aa 4) af) (ae (aa 2) ag))))) aK))))
  (au (aA bJ))),?_⟩
 have l1:=hZ.len;have l2:=hM.len;rfl';refine⟨⟨_,hT⟩,xU (xs:=ys) (Vq H a b ts ms) ⟨_,_,_,rfl,ak.refl _,λm h=>by simp at h⟩ ?_ ?_ ?_⟩
 .rintro i σ H2 _ ⟨_,_,_,_,s2,_⟩;exact s2.seq hT
 .rintro i x σ H2 p hx ⟨d1,d2,d3,rfl,s2,cg⟩ hp;obtain⟨m,nO,tp,sp,rfl,h1,h2⟩:=hM.get hx;have ik:=ht m (Y6 nO);have up:=ax (o:=.tup [.int i,.ref tp]) hp;refine oy (aj.of az) ?_;generalize upd H2 p (.tup [.int i,.ref tp])=H3 at up ⊢;have s3:=s2.trans up;have g1:=s3 _ _ h1;have g2:=s3 _ _ h2;have next:(∀ l v k,m.2.1=some l->dk ts m.1=some (v,k)->l<=v)->qJ (ms.take (i+1)) (dk ts):=λhh n hn=>by
   rw[aah,nO] at hn;rcases YX.mp hn with z|z
   .exact cg n z
   .obtain rfl:n=m:=by simpa using z
    exact hh
  obtain⟨v,hv,rv⟩:=pK hZ ik;obtain⟨mt,lo,hi⟩:=m;rfl';refine aq (aj.of g1) rfl (bq (s3.seq hA) hv ?_);cases et:dk ts mt with
  | none =>
   rw[show dk ts (mt,lo,hi).1=none from et] at rv;obtain rfl:v = .non:=rv;rfl';exact⟨_,_,_,rfl,s3,next λl v k _ e=>by rw[show dk ts (mt,lo,hi).1=none from et] at e;cases e⟩
  | some q2 =>
   obtain⟨w,k⟩:=q2;rw[show dk ts (mt,lo,hi).1=some (w,k) from et] at rv;obtain⟨rt,rfl,hrt⟩:=rv;rfl';refine aq (aj.of g1) rfl (aq (aj.of g2) rfl ?_);cases lo with
   | none =>
    rfl';exact⟨_,_,_,rfl,s3,next λl v k e _=>by cases e⟩
   | some l =>
    rfl';refine aq (aj.of g1) rfl (aq (aj.of g2) rfl (aq (aj.of (s3 _ _ hrt)) rfl ?_));rfl';refine aT (λhc=>?_) λhc=>?_
    .exact aq (aj.of (s3 _ _ hrt)) rfl ⟨br,λr bQ=>q i _ l w k nO rfl et hc r _ (s3.trans (ax bQ)) (s3.free bQ) az⟩
    .exact⟨_,_,_,rfl,s3,next λl' v' k' e1 e2=>by
      cases e1;rw[show dk ts (mt,some l,hi).1=some (w,k) from et] at e2;cases e2;lia⟩
 .rintro σ H2 ⟨d1,d2,d3,rfl,s2,cg⟩;rfl';rw[l2,aaz] at cg;exact q0 cg _ s2
inductive ed(H:Hp)(v:V)(c:Cl):Prop
 | mk(t a b:YN)(_:v = .ref t)(_:H t=some (.tup [.ref a,.ref b]))(_:H a=some (.tup [ev c.1.1,.int c.1.2]))(_:H b=some (.tup [ev c.2.1,.int c.2.2]))
theorem ed.same(h:ed H v r)(s:ak H H'):ed H' v r:=let ⟨t,a,b,e,h1,h2,h3⟩:=h;⟨t,a,b,e,s _ _ h1,s _ _ h2,s _ _ h3⟩
theorem ed.put(h:ed H v r)(hl:H l=some (.lst ys)):ed (upd H l o) v r:=by
 obtain⟨t,a,b,e,h1,h2,h3⟩:=h;have nl:∀ (z:YN) (vs:List V),H z=some (.tup vs)->z≠l:=λz vs e1 e2=>by rw[e2,hl] at e1;cases e1
 exact⟨t,a,b,e,by rw[aC (nl _ _ h1)];exact h1,by rw[aC (nl _ _ h2)];exact h2,by rw[aC (nl _ _ h3)];exact h3⟩
theorem Vs(h:dz H v o)(hl:H l=some (.lst ys))(k:∀ b o,b≠l->H b=some o->H' b=some o):dz H' v o:=by
 cases o with
 | none=>exact h
 | some p =>
  obtain⟨t,e,a⟩:=h;exact⟨t,e,k _ _ (λz=>by rw[z,hl] at a;cases a) a⟩
inductive pM(ps:List P2)(gs:List Gp)(i j:Nat)(H:Hp)(l:YN):Prop
 | mk(zs:List V)(cs:List Cl)(_:H l=some (.lst zs))(_:ay (ed H) zs cs)(_:cs.length<=8 * i+j)(_:vd ps gs cs)(_:∀ i' j' g h,gs[i']?=some g->gs[j']?=some h->(i'<i∨(i'=i/\j'<j))->jt ps g h cs)
theorem pM.same(h:pM ps gs i j H l)(s:ak H H'):pM ps gs i j H' l:=let ⟨zs,cs,a,b,c1,c2,c3⟩:=h;⟨zs,cs,s _ _ a,b.imp λ_ _ x=>x.same s,c1,c2,c3⟩
inductive Vt(K:Yu)(vs:List V)(H:Hp)(Q:VK)(aQ:XK):Prop
 | mk(a b:YN)(xs ys:List V)(ps:List P2)(gs:List Gp)(_:vs=[.ref a,.ref b])(_:ah K H a xs)(_:eI H xs ps)(_:cS ps)(_:ps.length<=900)(_:ah K H b ys)(_:ay (pJ H) ys gs)(_:gs.length<=8)(_:(∀ g∈gs,g.2.length<=1000/\∀ m∈g.2,m.1<=ps.length))(_:∀ l zs cs H',ak H H'->H l=none->H' l=some (.lst zs)->ay (ed H') zs cs->cs.length<=64->vd ps gs cs->(∀ g∈gs,∀ h∈gs,jt ps g h cs)->Q (.ref l) H')
inductive IS(H:Hp)(a b l:YN)(ps:List P2)(gs:List Gp)(i:Nat)(σ:St)(H1:Hp):Prop
 | mk(e1 e2 e3 e4 e5 e6:Option V)(_:σ=[some (.ref a),some (.ref b),some (.ref l),e1,e2,e3,e4,e5,e6])(_:ak H H1)(_:pM ps gs i 0 H1 l)
inductive Vu(H H0:Hp)(a b l:YN)(nm mk tp:V)(ps:List P2)(gs:List Gp)(i j:Nat)(σ:St)(H1:Hp):Prop
 | mk(e4 e5 e6:Option V)(_:σ=[some (.ref a),some (.ref b),some (.ref l),some nm,some mk,some tp,e4,e5,e6])(_:ak H H1)(_:(∀ b o,b≠l->H0 b=some o->H1 b=some o))(_:pM ps gs i j H1 l)
theorem Vv(T:Tx K mg):Ok P w base 3 T.si (Vt K):=by
 refine aY ku ?_;rintro _ _ _ _ H _ _ _ hr ⟨a,b,xs,ys,ps,gs,rfl,hS,hP,ao,hn,hG,hA,h7,hm,q⟩;refine⟨_,(ar (aI 2 ku.nd (dB ag))
  (ar (cW Zk rfl (cC (aa 1)) (kJ rfl (dS (ck 3 ku.nd) (dS (ck 4 ku.nd) kI))) (ar (aI 5 ku.nd (aE (Vn T) hr (ae (aa 0) (ae (aa 4) ag))))
    (au (cW Zk rfl (cC (aa 1)) (kJ rfl (dS (ck 6 ku.nd) (dS (ck 7 ku.nd) kI))) (ar (aI 8 ku.nd (aE (Vr T) hr (ae (aa 5) (ae (aa 7) ag))))
      (au (aJ (fc (aa 8)) (au (fo (ja ZP aae aaf n9 (aa 2) (ae (bb (ae (bb (ae (aa 3) (ae (aw (aw (aa 4) (aw (aa 8) af)) af) ag))) (ae (bb (ae (aa 6) (ae (aw (aw (aa 7) (aw (aa 8) af)) af) ag))) ag))) ag)))) aK)))))))
  (au (aA (aa 2))))),?_⟩
 have yl:=hA.len;refine aH (λσ H1=>∃ l,σ=[some (.ref a),some (.ref b),some (.ref l),none,none,none,none,none,none]/\ak H H1/\H l=none/\H1 l=some (.lst [])) (λN hN=>?_) ?_
 .rfl';exact⟨by decide,λl hl=>hN _ _ ⟨l,rfl,ax hl,hl,az⟩⟩
 rintro _ yR σ H1 ⟨l,rfl,s1,fl,hl⟩;subst yR;refine aH (λσ H2=>IS H a b l ps gs ys.length σ H2) (λN hN=>?_) ?_
 .rfl';refine⟨⟨_,s1.seq hG⟩,kR (xs:=ys) (IS H a b l ps gs) ⟨_,_,_,_,_,_,rfl,s1,[],[],hl,trivial,Zc _,λ_ h=>(nomatch h),λ_ _ _ _ _ _ h=>by lia⟩ ?_ ?_ (λσ H' h=>hN _ _ h)⟩
  .rintro i σ H2 _ ⟨_,_,_,_,_,_,_,s2,_⟩;exact s2.seq hG
  .rintro i x σ H2 hx ⟨_,_,_,_,_,_,rfl,s2,h2⟩;obtain⟨r,hr,gg,k,zs,rfl,h3,h4,h5⟩:=hA.get hx;have Bj:=hm r (Y6 hr);refine oy (aj.of (s2 _ _ h3)) ?_;rfl';refine⟨a,k,xs,zs,ps,r.2,rfl,s2.seq hS,hP.same s2,ah.of (s2 _ _ h4),h5.imp λ_ _ x=>x.same s2,ao,hn,Bj.1,Bj.2,λtp us ts H3 s3 IT xi Vw gh TT=>?_⟩;have S3:=s2.trans s3;rfl';refine⟨⟨_,S3.seq hG⟩,kR (xs:=ys) (Vu H H3 a b l (ev r.1) (.ref k) (.ref tp) ps gs i) ⟨_,_,_,rfl,S3,λ_ _ _ e=>e,h2.same s3⟩ ?_ ?_ ?_⟩
   .rintro j σ H4 _ ⟨_,_,_,_,s4,_,_⟩;exact s4.seq hG
   .rintro j y σ H4 hy ⟨_,_,_,rfl,s4,b4,ws,cs,h6,nP,h8,h9,pN⟩;obtain⟨r',vS,Yj,k',Vx,rfl,g3,g4,g5⟩:=hA.get hy;have Bk:=hm r' (Y6 vS);obtain⟨ls,_,hls,_⟩:=h2;have Vy:tp≠l:=λz=>by rw[z,hls] at IT;cases IT
    have Vz:=b4 _ _ Vy xi;have nM:=Vw.imp λ_ _ x=>Vs x (s3 _ _ hls) b4;have nQ:∀ vT:List Cl,(∀ i' j' g h,gs[i']?=some g->gs[j']?=some h->(i'<i∨(i'=i/\j'<j))->jt ps g h vT)->jt ps r r' vT->∀ i' j' g h,gs[i']?=some g->gs[j']?=some h->(i'<i∨(i'=i/\j'<j+1))->jt ps g h vT:=λvT VA VB i' j' g h a1 a2 a3=>by
     by_cases hz:i'=i/\j'=j
     .obtain⟨rfl,rfl⟩:=hz;rw[hr] at a1;rw[vS] at a2;cases a1;cases a2;exact VB
     .exact VA i' j' g h a1 a2 (by lia)
    refine oy (aj.of (s4 _ _ g3)) ?_;rfl';refine⟨tp,k',us,Vx,ts,r'.2,rfl,ah.of Vz,nM,ah.of (s4 _ _ g4),g5.imp λ_ _ x=>x.same s4,λm cv=>by have:=Bk.2 m cv;lia,λcg H5 s5=>?_,λjj m lo v kk e1 e2 e3 e4 p H5 s5 fp hp=>?_⟩
    .rfl';exact⟨_,_,_,rfl,s4.trans s5,λb o hb e=>s5 _ _ (b4 b o hb e),pM.same ⟨ws,cs,h6,nP,by lia,h9,nQ cs pN λm m1 n n1 hc=>absurd hc (Rw TT Bj.2 Bk.2 cg m1 n1)⟩ s5⟩
    .obtain⟨i',a',rfl,cu,hc⟩:=TT.clash (Bk.2 m (Y6 e1)) e3 e2 e4;have nJ:=s5 _ _ h6;have S5:=s4.trans s5;obtain⟨v1,yZ,t1,w1,rfl,m1,_⟩:=(h5.imp λ_ _ x=>dI.same x S5).at cu;obtain⟨v2,y0,t2,w2,rfl,m2,_⟩:=(g5.imp λ_ _ x=>dI.same x S5).at e1;rfl';refine⟨.inl ⟨rfl,_,ah.of nJ⟩,aq (aj.of hp) (v:=.int i') rfl (bq (ah.of (S5 _ _ h4)) (cF yZ) (aq (aj.of m1) (v:=.int a'.1) rfl ⟨br,λp1 fL=>?_⟩))⟩;have u1:=ax (o:=.tup [ev r.1,.int a'.1]) fL;refine aq (aj.of (u1 _ _ hp)) (v:=.int jj) rfl (bq (ah.of (u1 _ _ (S5 _ _ g4))) (cF y0) (aq (aj.of (u1 _ _ m2)) (v:=.int m.1) rfl ⟨br,λp2 eK=>⟨br,λp3 lZ=>?_⟩⟩));have u2:=ax (o:=.tup [ev r'.1,.int m.1]) eK;have u3:=ax (o:=.tup [.ref p1,.ref p2]) lZ;have U:=u1.trans (u2.trans u3);have tj:=U _ _ nJ;have cq:ed (upd (upd (upd H5 p1 (.tup [ev r.1,.int a'.1])) p2 (.tup [ev r'.1,.int m.1])) p3 (.tup [.ref p1,.ref p2])) (.ref p3) ((r.1,a'.1),(r'.1,m.1)):=⟨p3,p1,p2,rfl,az,u3 _ _ (u2 _ _ az),u3 _ _ az⟩
     have wl:ws.length<=100:=by have e8:=nP.len;have b1:=(YC.mp hr).1;have b2:=(YC.mp vS).1;lia
     refine⟨ws,tj,ZL wl (by decide),_,_,_,rfl,jN fl (S5.trans U),λb o hb e=>by rw[aC hb];exact U _ _ (s5 _ _ (b4 b o hb e)),_,cs++[((r.1,a'.1),(r'.1,m.1))],az,ay.app (nP.imp λ_ _ x=>(x.same (s5.trans U)).put tj) ⟨cq.put tj,trivial⟩,by rw[YJ,YR];lia,λc tI=>?_,nQ _ (λi' j' g h a1 a2 a3=>(pN i' j' g h a1 a2 a3).more) λ_ _ _ _ _=>⟨_,YL _ (.head _),rfl,rfl⟩⟩;rcases YX.mp tI with z|z
     .exact h9 c z
     .rw[YZ.mp z];exact⟨r,Y6 hr,r',Y6 vS,a',Y6 cu,m,Y6 e1,rfl,hc⟩
   .rintro σ H4 ⟨_,_,_,rfl,s4,_,ws,cs,h6,nP,h8,h9,pN⟩;exact⟨_,_,_,_,_,_,rfl,s4,ws,cs,h6,nP,by lia,h9,λi' j' g h a1 a2 a3=>pN i' j' g h a1 a2 (by have:=(YC.mp a2).1;lia)⟩
 rintro _ yR σ H2 ⟨_,_,_,_,_,_,rfl,s2,ws,cs,h6,nP,h8,h9,pN⟩;subst yR;rfl';exact q l ws cs H2 s2 fl h6 nP (by lia) h9 λg hg h hh=>by obtain⟨i',cu⟩:=aac.mp hg;obtain⟨j',x6⟩:=aac.mp hh;exact pN i' j' g h cu x6 (.inl (by have:=(YC.mp cu).1;lia))
theorem IU(h:Q (!decide (o=some e))):neT (.int e) (ev o) Q:=by
 cases o with
 | none=>exact h
 | some x =>
  show if ¬ e=x then Q true else Q false
  by_cases z:e=x
  .subst z;rw[if_neg (λh=>h rfl)];simpa using h
  .rw[if_pos z];have:(some x:En)≠some e:=λh=>z (Option.some.inj h).symm;simpa [this] using h
theorem IV(h:Q (decide (o=o'))):eqT (ev o) (ev o') Q:=by
 cases o with
 | none=>cases o'<;>exact h
 | some x =>
  cases o' with
  | none=>exact h
  | some y =>
   show if x=y then Q true else Q false
   by_cases z:x=y
   .subst z;rw[if_pos rfl];simpa using h
   .rw[if_neg z];have:(some x:En)≠some y:=λh=>z (Option.some.inj h);simpa [this] using h
inductive VC(H:Hp)(v:V)(s:En × Nat):Prop
 | mk(r:YN)(_:v = .ref r)(_:H r=some (.tup [ev s.1,.int s.2]))
theorem ay.ints(h:ay (λv (n:Int)=>v=V.int n) zs ns):zs=ns.map V.int:=by
 induction zs generalizing ns with
 | nil=>cases ns with|nil=>rfl|cons _ _=>exact h.elim
 | cons z zs ih=>cases ns with
  | nil=>exact h.elim
  | cons n ns=>rw[YW,<- ih h.2,h.1]
theorem IW:∀ {xs ys:List Int},xs.Nodup->(∀ x∈xs,x∈ys)->xs.length<=ys.length
 | [],_,_,_=>Zc _
 | x::xs,ys,h,k=>by obtain⟨h1,h2⟩:=ZY.mp h;have hx:=k x (.head _);have ih:=IW (ys:=ys.erase x) h2 λy hy=>(aex (λz=>h1 (by rw[<- z];exact hy))).mpr (k y (.tail _ hy));rw[ads hx] at ih;have:=adZ hx;rw[Zr];lia
inductive VD(K:Yu)(vs:List V)(H:Hp)(Q:VK)(aQ:XK):Prop
 | mk(l:YN)(e:Int)(zs:List V)(cs:List Cl)(_:vs=[.ref l,.int e])(_:H l=some (.lst zs))(_:ay (ed H) zs cs)(_:cs.length<=64)(_:∀ r ys H',ak H H'->H r=none->H' r=some (.lst ys)->ay (ed H') ys (wo e cs)->Q (.ref r) H')
theorem IX(T:Tx K mg):Ok P w base 1 T.iL (VD K):=by
 refine aY HD ?_;rintro _ _ _ _ H _ Q _ hr ⟨l,e,zs,cs,rfl,hl,hC,hn,q⟩;refine⟨_,(au (aA (cN (bC.mk (fr:=[1]) (ys:=["eye"]) rfl (by decide +kernel) rfl (by decide +kernel) rfl rfl (.cons rfl .nil) (.cons rfl rfl rfl rfl .nil) (by decide) rfl) rfl (cC (aa 0)) (λC s2 H2 ex pn=>⟨(gN (PW.pt (jF (nk (aa 1) (cz (K:=K) (cz (K:=K) (aa 0) af) af)) (kF (nk (aa 1) (cz (K:=K) (cz (K:=K) (aa 0) af) af)))))),(aa 0)⟩)))),?_⟩;have zl:=hC.len;rfl';refine⟨⟨_,ah.of hl⟩,bS fA (YE (by lia:zs.length<=64) (by decide)) (mS (R:=ed H) (R':=ed H) (p:=λc=>!gE e c) (f:=λc=>c) (ah.of hl) hC (λx c r Q h=>?_) (λx c hp r Q h=>?_) λys hy=>?_)⟩
 .obtain⟨t,a,b,rfl,h1,h2,h3⟩:=r;rfl';refine aq (aj.of h1) (v:=.ref a) rfl (aq (aj.of h2) (v:=ev c.1.1) rfl (IU ?_));unfold gE at h;by_cases z:c.1.1=some e
  .rw[decide_eq_true z] at h ⊢;exact h
  .rw[decide_eq_false z] at h ⊢;refine aq (aj.of h1) (v:=.ref b) rfl (aq (aj.of h3) (v:=ev c.2.1) rfl (IU ?_));exact h
 .rfl';exact h _ r
 .rw[YY];intro r hr;rw[afD] at hy;exact q r ys _ (ax hr) hr az (hy.imp λ_ _ x=>x.same (ax hr))
inductive VE(K:Yu)(vs:List V)(H:Hp)(Q:VK)(aQ:XK):Prop
 | mk(v:V)(c:Cl)(_:vs=[v])(_:ed H v c)(_:∀ l (es:List Int) H',ak H H'->H l=none->H' l=some (.lst (es.map V.int))->(∀ e,e∈es↔gE e c=true)->es.length<=2->Q (.ref l) H')
theorem VF(T:Tx K mg):Ok P w base 1 T.lR (VE K):=by
 refine aY HE ?_;rintro _ _ _ s H _ Q _ hr ⟨v,c,rfl,⟨t,a,b,rfl,h1,h2,h3⟩,q⟩;refine⟨_,(au (aA (Ri rfl (cN (bC.mk (fr:=[]) (ys:=[]) rfl (by decide +kernel) rfl (by decide +kernel) rfl rfl .nil .nil (by decide) rfl) rfl (tR (aa 0)) (λC s2 H2 ex pn=>⟨(gN (fc (cz (K:=K) (aa 0) af))),(cz (K:=K) (aa 0) af)⟩)) (by rfl) T.AV xf (by rfl) T.HQ FV))),?_⟩;rfl';refine⟨⟨_,aj.of h1⟩,bS (xs:=[.ref a,.ref b]) xD br (mS (R:=VC H) (R':=λv (n:Int)=>v=V.int n) (p:=λs=>s.1.isSome) (f:=λs=>s.1.getD 0) (as:=[c.1,c.2]) (aj.of h1) ⟨⟨a,rfl,h2⟩,⟨b,rfl,h3⟩,trivial⟩ (λx s r Q h=>?_) (λx s hp r Q h=>?_) λzs hz=>?_)⟩
 .obtain⟨r,rfl,h4⟩:=r;rfl';refine aq (aj.of h4) (v:=ev s.1) rfl ?_;cases hs:s.1 with
  | none=>rw[hs] at h;exact h
  | some x=>rw[hs] at h;exact h
 .obtain⟨r,rfl,h4⟩:=r;rfl';refine aq (aj.of h4) (v:=ev s.1) rfl (h _ ?_);cases hs:s.1 with
  | none=>rw[hs] at hp;cases hp
  | some x=>rfl
 .rw[YY];intro l hl;rw[ay.ints hz];have u1:=ax (o:=.lst ((([c.1,c.2].filter λs=>s.1.isSome).map λs=>s.1.getD 0).map V.int)) hl;have hn:(([c.1,c.2].filter λs=>s.1.isSome).map λs=>s.1.getD 0).length<=2:=by rw[Yw];exact Ze _ _
  have hi:∀ e,e∈(([c.1,c.2].filter λs=>s.1.isSome).map λs=>s.1.getD 0)↔gE e c=true:=λe=>by
   rw[m9];constructor
   .intro h;obtain⟨s,hs,rfl⟩:=YO.mp h;obtain⟨m1,m2⟩:=Y8.mp hs;obtain⟨x,hx⟩:=abN.mp m2;rw[hx];rcases YV.mp m1 with rfl|m1
    .exact .inl hx
    .rw[YZ.mp m1] at hx;exact .inr hx
   .rintro (h|h)
    .exact YO.mpr ⟨c.1,Y8.mpr ⟨.head _,by rw[h];rfl⟩,by rw[h];rfl⟩
    .exact YO.mpr ⟨c.2,Y8.mpr ⟨.tail _ (.head _),by rw[h];rfl⟩,by rw[h];rfl⟩
  refine⟨l,rfl,_,ah.of az,by lia,λws nd mem _ r hr=>?_⟩;exact q r ws _ (u1.trans (ax hr)) (u1.free hr) az (λe=>(mem e).trans (hi e)) (YE (IW nd λx hx=>(mem x).mp hx) hn)
inductive IY(K:Yu)(N:Nat)(vs:List V)(H:Hp)(Q:VK)(aQ:XK):Prop
 | mk(l:YN)(zs:List V)(cs:List Cl)(n:Nat)(_:vs=[.ref l,.int n])(_:n<N)(_:n<=7)(_:H l=some (.lst zs))(_:ay (ed H) zs cs)(_:cs.length<=64)(_:(∀ H',ak H H'->gu (n+1) cs->Q .non H'))(_:∀ r (es:List Int) H',ak H H'->H r=none->H' r=some (.lst (es.map V.int))->qU es cs->es.length<=n->Q (.ref r) H')
inductive bV(H:Hp)(l:YN)(n:Nat)(cs:List Cl)(es:List Int)(i:Nat)(σ:St)(H1:Hp):Prop
 | mk(e1 e2:Option V)(_:σ=[some (.ref l),some (.int ((n+1:Nat):Int)),e1,e2])(_:ak H H1)(_:∀ e∈es.take i,gu (n+1) (wo e cs))
theorem VG(T:Tx K mg):∀ N,Ok P w base (N+2) T.iM (IY K N):=by
 intro N
 induction N with
 | zero =>
  refine okN T.iM.F rB.1 (λvs H Q E h=>?_) (λaV A outer s H vs Q E hr h=>?_)
  .obtain⟨l,zs,cs,n,rfl,hN,_⟩:=h;exact absurd hN (aat _)
  .obtain⟨l,zs,cs,n,rfl,hN,_⟩:=h;exact absurd hN (aat _)
 | succ N ih =>
  refine okN T.iM.F rB.1 (λvs H Q E h=>?_) (λaV A outer s H vs Q E hr h=>?_)
  .obtain⟨l,zs,cs,n,rfl,_⟩:=h;rfl
  .obtain⟨l,zs,cs,n,rfl,hN,n7,hl,hC,hn,q0,q⟩:=h;refine⟨_,(ar (aJ (b9 (a9 cK (by rfl) T.cp cf (ae (aa 0) ag)) af) (au (aA (dB ag))) aK)
    (ar (aJ (b9 (aa 1) af) (au (aA bJ)) aK)
    (ar (cW Zk rfl (cC (cD (VF T) (hr.mono (by lia)) rfl T.lR.m T.lR.F.kp T.lR.b .nil bX (ae (bf bh (aa 0) af (λ_ _=>rfl)) ag))) (iX (i:=2) rB.nd rfl (acd rfl)) (ar (ia (i:=3) rB.nd rfl (acd rfl) (cD ih (hr.mono (by lia)) rfl T.iM.m T.iM.F.kp T.iM.b .nil bX (ae (cD (IX T) (hr.mono (by lia)) rfl T.iL.m T.iL.F.kp T.iL.b .nil bX (ae (aa 0) (ae (aa 2) ag))) (ae (aF dn (aa 1) af) ag))))
      (au (aJ (fc (aa 3)) (au (aA (aF jL (dB (ae (aa 2) ag)) (aa 3)))) aK))))
    (au (aA bJ))))),?_⟩
   have zl:=hC.len;cases cs with
   | nil =>
    obtain rfl:zs=[]:=Z1.mp zl;rfl';refine⟨_,dO (ah.of hl),?_⟩;rfl';exact⟨by decide,λr hr=>q r [] _ (ax hr) hr az (λc hc=>(nomatch hc)) (Zc _)⟩
   | cons c cs =>
    obtain⟨z,zs,rfl⟩:∃ z z',zs=z::z':=by cases zs with|nil=>cases zl|cons z zs=>exact⟨z,zs,rfl⟩
    cases n with
    | zero =>
     rfl';refine⟨_,dO (ah.of hl),?_⟩;refine aT (λh0=>absurd h0 (by rw[Zr];lia)) λ_=>?_;rfl';exact q0 _ (ak.refl _) λ_ _=>trivial
    | succ n =>
     rfl';refine⟨_,dO (ah.of hl),?_⟩;refine aT (λh0=>absurd h0 (by rw[Zr];lia)) λ_=>aT (λh0=>absurd h0 (by lia)) λ_=>?_;refine bq (ah.of hl) (v:=z) (show cE (z::zs) ((0:Nat):Int)=some z from cF rfl) ⟨z,c,rfl,hC.1,λk es H1 s1 _ hk yo DW=>?_⟩;rfl';refine⟨⟨_,ah.of hk⟩,kR (xs:=es.map V.int) (bV H1 l n (c::cs) es) ⟨_,_,rfl,ak.refl _,λ_ h=>(nomatch h)⟩ ?_ ?_ ?_⟩
     .rintro i σ H2 _ ⟨_,_,rfl,s2,_⟩;exact ah.of (s2 _ _ hk)
     .rintro i x σ H2 hx ⟨e1,e2,rfl,s2,cg⟩;rw[YF] at hx;obtain⟨e,he,rfl⟩:=Zh.mp hx;have S2:=s1.trans s2;rfl';refine⟨l,e,_,c::cs,rfl,S2 _ _ hl,hC.imp λ_ _ x=>x.same S2,hn,λr ys H3 s3 _ hr hy=>?_⟩;refine⟨r,ys,wo e (c::cs),n,by rw[show (((n+1:Nat):Int)-1)=(n:Int) by lia],by lia,by lia,hr,hy,YE (Ze _ _) hn,λH4 s4 h4=>?_,λr2 VH H4 s4 f4 Bf VI hle=>?_⟩
      .rfl';refine⟨_,_,rfl,s2.trans (s3.trans s4),λe' oO=>?_⟩;rw[aah,he] at oO;rcases YX.mp oO with z|z
       .exact cg e' z
       .obtain rfl:e'=e:=by simpa using z
        exact h4
      .rfl';refine⟨by decide,λp hp=>⟨_,az,_,(ax hp) _ _ Bf,YE (by rw[Yw,YR];lia:_<=20) (by decide),λp1 fL=>?_⟩⟩;have W:=s1.trans (s2.trans (s3.trans (s4.trans (ax (o:=.lst [.int e]) hp))));exact q p1 (e::VH) _ (W.trans (ax fL)) (W.free fL) az (RB VI) (by rw[Zr];lia)
     .rintro σ H2 ⟨e1,e2,rfl,s2,cg⟩;rfl';refine q0 _ (s1.trans s2) λe he=>cg e ?_;rw[Yw,aaz];exact (yo e).mpr he
def gH(H:Hp):V->Pp->Prop
 | v,.nil=>v = .non
 | v,.full=>∃ r,v = .ref r/\H r=some (.tup [.str "full"])
 | v,.cls c a b=>∃ r p q x y,v = .ref r/\H r=some (.tup [.str "clash",.ref p,.ref q,x,y])/\H p=some (.tup [ev c.1.1,.int c.1.2])/\H q=some (.tup [ev c.2.1,.int c.2.2])/\gH H x a/\gH H y b
theorem gH.same(s:ak H H'):∀ {t:Pp} {v:V},gH H v t->gH H' v t
 | .nil,_,h=>h
 | .full,_,⟨r,e,h⟩=>⟨r,e,s _ _ h⟩
 | .cls _ _ _,_,⟨r,p,q,x,y,e,h1,h2,h3,h4,h5⟩=>⟨r,p,q,x,y,e,s _ _ h1,s _ _ h2,s _ _ h3,gH.same s h4,gH.same s h5⟩
noncomputable def tm(n:Nat)(cs:List Cl)(o:En):Pp:=match o with|none=>.nil|some e=>lA n (wo e cs)
theorem IZ(n:Nat)(c:Cl)(cs:List Cl):lA (n+1) (c::cs) = .cls c (tm n (c::cs) c.1.1) (if c.1.1=c.2.1 then .nil else tm n (c::cs) c.2.1):=rfl
inductive Bl(K:Yu)(N:Nat)(vs:List V)(H:Hp)(Q:VK)(aQ:XK):Prop
 | mk(l:YN)(m:Int)(zs:List V)(cs:List Cl)(n:Nat)(_:vs=[.ref l,.int m])(_:m+1=(n:Int))(_:n<N)(_:H l=some (.lst zs))(_:ay (ed H) zs cs)(_:cs.length<=64)(_:gu n cs)(_:∀ v H',ak H H'->gH H' v (lA n cs)->Q v H')
inductive VJ(K:Yu)(N:Nat)(vs:List V)(H:Hp)(Q:VK)(aQ:XK):Prop
 | mk(l:YN)(m:Int)(o:En)(zs:List V)(cs:List Cl)(n:Nat)(_:vs=[.ref l,ev o,.int m])(_:m=(n:Int))(_:n<N)(_:H l=some (.lst zs))(_:ay (ed H) zs cs)(_:cs.length<=64)(_:(∀ e,o=some e->gu n (wo e cs)))(_:∀ v H',ak H H'->gH H' v (tm n cs o)->Q v H')
theorem I0(T:Tx K mg)(N:Nat)(ih:Ok P w base (2 * N+1) T.gW (Bl K N)):Ok P w base (2 * N+2) T.gV (VJ K N):=by
 refine okN T.gV.F HF.1 (λvs H Q E h=>?_) (λaV A outer s H vs Q E hr h=>?_)
 .obtain⟨l,m,o,zs,cs,n,rfl,_⟩:=h;rfl
 .obtain⟨l,m,o,zs,cs,n,rfl,hm,hN,hl,hC,hn,cg,q⟩:=h;refine⟨_,(au (aA (jG (dq (aa 1)) bJ (cD ih (hr.mono (by lia)) rfl T.gW.m T.gW.F.kp T.gW.b .nil bX (ae (cD (IX T) (hr.mono (by lia)) rfl T.iL.m T.iL.F.kp T.iL.b .nil bX (ae (aa 0) (ae (aa 1) ag))) (ae (aF dn (aa 2) af) ag)))))),?_⟩;cases o with
  | none =>
   rfl';exact q _ _ (ak.refl _) rfl
  | some e =>
   rfl';refine⟨l,e,zs,cs,rfl,hl,hC,hn,λr ys H1 s1 _ cT hy=>?_⟩;exact⟨r,_,ys,wo e cs,n,rfl,by lia,hN,cT,hy,YE (Ze _ _) hn,cg e rfl,λv H2 s2 h2=>q v H2 (s1.trans s2) h2⟩
theorem VL(T:Tx K mg):∀ N,Ok P w base (2 * N+1) T.gW (Bl K N):=by
 intro N
 induction N with
 | zero =>
  refine okN T.gW.F nu.1 (λvs H Q E h=>?_) (λaV A outer s H vs Q E hr h=>?_)
  .obtain⟨l,m,zs,cs,n,rfl,hm,hN,_⟩:=h;exact absurd hN (aat _)
  .obtain⟨l,m,zs,cs,n,rfl,hm,hN,_⟩:=h;exact absurd hN (aat _)
 | succ N ih =>
  refine okN T.gW.F nu.1 (λvs H Q E h=>?_) (λaV A outer s H vs Q E hr h=>?_)
  .obtain⟨l,m,zs,cs,n,rfl,_⟩:=h;rfl
  .obtain⟨l,m,zs,cs,n,rfl,hm,hN,hl,hC,hn,cg,q⟩:=h;refine⟨_,(ar (aJ (nj (aa 1) af) (au (aA (bb (ae bo ag)))) aK)
    (ar (ia (i:=2) nu.nd rfl (acd rfl) (bf bh (bf bh (aa 0) af (λ_ _=>rfl)) af (λ_ _=>rfl)))
    (ar (ia (i:=3) nu.nd rfl (acd rfl) (bf bh (bf bh (aa 0) af (λ_ _=>rfl)) af (λ_ _=>rfl)))
    (ar (ia (i:=4) nu.nd rfl (acd rfl) (cD (I0 T N ih) (hr.mono (by lia)) rfl T.gV.m T.gV.F.kp T.gV.b .nil bX (ae (aa 0) (ae (bf bh (aa 2) af (λ_ _=>rfl)) (ae (aa 1) ag)))))
    (ar (ia (i:=5) nu.nd rfl (acd rfl) (jG (b9 (bf bh (aa 2) af (λ_ _=>rfl)) (bf bh (aa 3) af (λ_ _=>rfl))) bJ (cD (I0 T N ih) (hr.mono (by lia)) rfl T.gV.m T.gV.F.kp T.gV.b .nil bX (ae (aa 0) (ae (bf bh (aa 3) af (λ_ _=>rfl)) (ae (aa 1) ag))))))
    (au (aA (bb (ae bo (ae (aa 2) (ae (aa 3) (ae (aa 4) (ae (aa 5) ag))))))))))))),?_⟩
   have zl:=hC.len;cases n with
   | zero =>
    rfl';refine aT (λ_=>?_) λh0=>absurd (show m<0 by lia) h0;exact⟨by decide,λr hr=>q _ _ (ax hr) ⟨r,rfl,az⟩⟩
   | succ n =>
    cases cs with
    | nil=>exact cg.elim
    | cons c cs =>
     obtain⟨z,zs,rfl⟩:∃ z z',zs=z::z':=by cases zs with|nil=>cases zl|cons z zs=>exact⟨z,zs,rfl⟩
     obtain⟨t,a,b,rfl,ht,ha,hb⟩:=id hC.1;have z0:cE (V.ref t::zs) ((0:Nat):Int)=some (.ref t):=cF rfl;rfl';refine aT (λh0=>absurd h0 (by lia)) λ_=>?_;refine bq (ah.of hl) z0 (aq (aj.of ht) (v:=.ref a) rfl ?_);refine bq (ah.of hl) z0 (aq (aj.of ht) (v:=.ref b) rfl (aq (aj.of ha) (v:=ev c.1.1) rfl ?_));refine⟨l,m,c.1.1,_,c::cs,n,rfl,by lia,by lia,hl,hC,hn,λe he=>cg e (m9.mpr (.inl he)),λv1 H1 s1 h1=>?_⟩;refine aq (aj.of (s1 _ _ ha)) (v:=ev c.1.1) rfl (aq (aj.of (s1 _ _ hb)) (v:=ev c.2.1) rfl (IV ?_));rw[IZ] at q;by_cases he:c.1.1=c.2.1
     .rw[decide_eq_true he];rw[if_pos he] at q;refine⟨by decide,λp hp=>?_⟩;have u1:=ax (o:=.tup [.str "clash",.ref a,.ref b,v1,.non]) hp;have U:=s1.trans u1;exact q _ _ U ⟨p,a,b,v1,_,rfl,az,U _ _ ha,U _ _ hb,h1.same u1,rfl⟩
     .rw[decide_eq_false he];rw[if_neg he] at q;refine aq (aj.of (s1 _ _ hb)) (v:=ev c.2.1) rfl ⟨l,m,c.2.1,_,c::cs,n,rfl,by lia,by lia,s1 _ _ hl,hC.imp λ_ _ x=>x.same s1,hn,λe he=>cg e (m9.mpr (.inr he)),λv2 H2 s2 h2=>⟨by decide,λp hp=>?_⟩⟩;have u1:=ax (o:=.tup [.str "clash",.ref a,.ref b,v1,v2]) hp;have U:=s1.trans (s2.trans u1);exact q _ _ U ⟨p,a,b,v1,v2,rfl,az,U _ _ ha,U _ _ hb,h1.same (s2.trans u1),h2.same u1⟩
theorem VM(T:Tx K mg):Ok P w base 10 T.iM (IY K 8):=VG T 8
theorem VN(T:Tx K mg):Ok P w base 19 T.gW (Bl K 9):=VL T 9
noncomputable def cZ:Pp->Nat
 | .nil=>0
 | .full=>1
 | .cls _ a b=>(if cZ a<=cZ b then cZ b else cZ a)+1
theorem Ja:∀ (n:Nat) (cs:List Cl),cZ (lA n cs)<=n+1
 | 0,_=>YD _
 | n+1,[]=>Nat.le_add_left _ _
 | n+1,c::cs=>by
  have one:∀ o,cZ (tm n (c::cs) o)<=n+1:=λo=>by
   cases o with
   | none=>exact Zc _
   | some e=>exact Ja n _
  have two:cZ (if c.1.1=c.2.1 then .nil else tm n (c::cs) c.2.1)<=n+1:=by
   split
   .exact Zc _
   .exact one _
  rw[IZ];show (if _<=_ then _ else _)+1<=n+1+1;have:=one c.1.1;split<;>lia
inductive Bm(G H:Hp)(v:V)(sw gw:List W2)(tb:Tb)(mo:Int):Prop
 | nQ (r k:YN) (j:Nat) (_:v = .ref r) (_:H r=some (.tup [.str "never",.ref k])) (_:H k=some (.tup [.str "step",.int (j:Int)])) (_:sw[j]?=some none)
 | gol (r k:YN) (j:Nat) (_:v = .ref r) (_:H r=some (.tup [.str "never",.ref k])) (_:H k=some (.tup [.str "at",.int (j:Int)])) (_:gw[j]?=some none)
 | pap (r:YN) (k:V) (t:Pp) (pp:List P2) (gs:List S2) (_:v = .ref r) (_:H r=some (.tup [.str "never",k])) (_:gH H k t) (_:cZ t<=9) (_:sw=pp.map fI) (_:gw=gs.map some) (_:Val pp gs tb mo t [])
 | may (r k:YN) (cs:List Int) (pp:List P2) (gs:List S2) (es:List Int) (_:v = .ref r) (_:H r=some (.tup [.str "may",.ref k])) (_:H k=some (.lst (cs.map V.int))) (_:G k=none) (_:cs.length=gw.length) (_:sw=pp.map fI) (_:gw=gs.map some) (_:d8 pp (bM cs)) (_:∀ t s,gs[t]?=some s->bF s (bM cs t)) (_:(es.length:Int)<=mo) (_:meets (b8 tb es) (bM cs))
noncomputable def fg(gs:List S2):List Mk:=(Y1 gs.length).map λi=>(i,gs.getD i (none,none))
theorem Jb{gs:List S2}{i:Nat}{m:Mk}(h:(fg gs)[i]?=some m):m.1=i/\gs[i]?=some m.2:=by
 unfold fg at h;rw[YF] at h;obtain⟨k,hk,rfl⟩:=Zh.mp h;have hi:i<gs.length:=by
  have:=(YC.mp hk).1
  rwa [YQ] at this
 rw[Zb hi] at hk;cases hk;exact⟨rfl,by show gs[i]?=some (gs.getD i _);rw[Yv,Yx hi];rfl⟩
theorem Jc(h:m∈fg gs):m.1<gs.length/\gs[m.1]?=some m.2:=by obtain⟨i,hi⟩:=aac.mp h;obtain⟨e1,e2⟩:=Jb hi;rw[<- e1] at e2;exact⟨(YC.mp e2).1,e2⟩
theorem vU(gs:List S2):(fg gs).length=gs.length:=by unfold fg;rw[Yw,YQ]
theorem ay.vV:∀ {xs:List V} {as:List α},xs.length=as.length->(∀ (i:Nat) x a,xs[i]?=some x->as[i]?=some a->R x a)->ay R xs as
 | [],[],_,_=>trivial
 | _::_,_::_,h,k=>⟨k 0 _ _ rfl rfl,ay.vV (by simpa using h) λi x a h1 h2=>k (i+1) x a h1 h2⟩
 | [],_::_,h,_=>by cases h
 | _::_,[],h,_=>by cases h
theorem getD_none{ws:List W2}{j:Nat}(h:j<ws.length)(e:abu (ws.getD j none)=true):ws[j]?=some none:=by
 rw[Yv,Yx h] at e;rw[Yx h];cases hw:ws[j] with
 | none=>rfl
 | some s=>rw[hw] at e;cases e
inductive VO(K:Yu)(B C:YN)(vs:List V)(H:Hp)(Q:VK)(E:XK):Prop
 | mk(x p b:YN)(e t u d m:Int)(xs:List V)(ps:List Pa)(tb:Tb)(_:vs=[.ref x,.ref b])(_:cb B H x e t u d m p tb)(_:bL e t tb)(_:tb.length<=60)(_:1<=t)(_:t<=12)(_:0<=e)(_:e<=7)(_:0<=m)(_:m<=7)(_:ah K H b xs)(_:iA H xs ps)(_:ps.length<=900)(_:(¬ iC t ps->E (.ref C) none H))(_:(iC t ps->∀ v H',ak H H'->Bm H H' v (dw u d ps (t-1).toNat) (ff ps t.toNat) tb m->Q v H'))
theorem VP(T:Tx K mg):Ok P w base 20 T.x_ask (VO K T.aL T.gd):=by
 refine lF nv ?_;rintro _ _ _ s H vs _ _ hr ⟨x,p,b,e,t,u,d,m,xs,ps,tb,rfl,hb,bW,kA,t1,t2,e0,e7,m0,m7,hX,hP,hn,Q0,Q9⟩;refine⟨_,(ar (aI 2 nv.nd (cD (Io T) (hr.mono (by decide)) rfl T.lG.m T.lG.F.kp T.lG.b .nil kU (ae (aa 0) (ae (aa 1) ag))))
  (ar (aI 3 nv.nd (cD (UD T) (hr.mono (by decide)) rfl T.lH.m T.lH.F.kp T.lH.b .nil kU (ae (aa 0) (ae (aa 1) ag))))
  (ar (aJ (iZ (Gi (eX hr)) bJ (aa 2) (by with_unfolding_all rfl)) (au (aA (bb (ae bo (ae (bb (ae bo (ae (ja ZP abV adI (Gj (eX hr)) (aa 2) (ae bJ ag)) ag))) ag))))) aK)
  (ar (aJ (iZ (Gi (eX hr)) bJ (aa 3) (by with_unfolding_all rfl)) (au (aA (bb (ae bo (ae (bb (ae bo (ae (ja ZP abV adI (Gj (eX hr)) (aa 3) (ae bJ ag)) ag))) ag))))) aK)
  (ar (aI 4 nv.nd (RX rfl (by rfl) T.pF (by rfl) T.vD (ae (aa 3) ag)))
  (ar (aI 5 nv.nd (aE (Vv T) hr (ae (aa 2) (ae (aF jL (dB (ae (bb (ae bJ (ae (aa 4) ag))) ag)) (aE (U1 T) hr (ae (aa 0) ag))) ag))))
  (ar (aI 6 nv.nd (aE (VM T) hr (ae (aa 5) (ae (eN rfl (aa 0) rfl) ag))))
  (ar (aJ (dq (aa 6)) (au (aA (bb (ae bo (ae (aE (VN T) hr (ae (aa 5) (ae (eN rfl (aa 0) rfl) ag))) ag))))) aK)
  (au (aA (bb (ae bo (ae (aE (Vf T) hr (ae (aa 2) (ae (aF jL (aa 4) (aE (Iy T) hr (ae (aa 0) (ae (aa 6) ag)))) ag))) ag))))))))))))),?_⟩
 obtain⟨⟨dx,hx⟩,kvs,qx,Yk⟩:=id hb;have Bn:gf T.aL H x e t u d m p kvs:=⟨⟨dx,hx⟩,qx⟩
 by_cases hk:iC t ps
 case neg =>
  refine aH (λ_ _=>False) (λN hN=>?_) (λ_ _ _ _ h=>h.elim);rfl';exact⟨x,p,b,e,t,u,d,m,kvs,xs,ps,rfl,Bn,t1,t2,hX,hP,hn,λ_=>Q0 hk,λz=>absurd z hk⟩
 have Q1:=Q9 hk;refine aH (λσ H1=>∃ s ys,σ=[some (.ref x),some (.ref b),some (.ref s),none,none,none,none]/\ak H H1/\H1 s=some (.lst ys)/\ay (fF H1) ys (dw u d ps (t-1).toNat)) (λN hN=>?_) ?_
 .rfl';exact⟨x,p,b,e,t,u,d,m,kvs,xs,ps,rfl,Bn,t1,t2,hX,hP,hn,λz=>absurd hk z,λ_ l ys H1 s1 _ hl hW=>hN _ _ ⟨l,ys,rfl,s1,hl,hW⟩⟩
 rintro _ yR σ H1 ⟨s,ys,rfl,s1,hs,hW⟩;subst yR;refine aH (λσ H2=>∃ gl zs,σ=[some (.ref x),some (.ref b),some (.ref s),some (.ref gl),none,none,none]/\ak H1 H2/\H2 gl=some (.lst zs)/\ay (fF H2) zs (ff ps t.toNat)) (λN hN=>?_) ?_
 .rfl';exact⟨x,p,b,e,t,u,d,m,kvs,xs,ps,rfl,Bn.same s1,t1,t2,s1.seq hX,hP.same s1,hn,λz=>absurd hk z,λ_ l ys H2 s2 _ hl hW=>hN _ _ ⟨l,ys,rfl,s2,hl,hW⟩⟩
 rintro _ yR σ H2 ⟨gl,zs,rfl,s2,iI,hG⟩;subst yR;have sU:=s1.trans s2;have b5:=s2 _ _ hs;have Bo:=hW.imp λ_ _ r=>r.same s2;have wl:(dw u d ps (t-1).toNat).length=(t-1).toNat:=by unfold dw;rw[Yw,YQ]
 have gw:(ff ps t.toNat).length=t.toNat:=by unfold ff;rw[Yw,YQ]
 have yl:=hW.len;have zl:=hG.len;obtain⟨n1,n2,n3⟩:=zc Bo;obtain⟨k1,k2,k3⟩:=zc hG;refine aH (λσ H3=>σ=[some (.ref x),some (.ref b),some (.ref s),some (.ref gl),none,none,none]/\H3=H2/\(dw u d ps (t-1).toNat).any abu=false) (λN hN=>?_) ?_
 .rfl';refine⟨s,ys,rfl,rfl,ah.of b5,n1,?_⟩;rw[n2];cases hA:(dw u d ps (t-1).toNat).any abu with
  | false =>
   rfl';exact hN _ _ ⟨rfl,rfl,hA⟩
  | true =>
   rfl';obtain⟨j,j1,j2,j3⟩:=zd (d:=V.non) (n2.trans hA);refine⟨.inl ⟨rfl,_,ah.of b5⟩,s,ys,j,rfl,rfl,ah.of b5,n1,j1,by lia,j2,j3,br,λk gZ=>⟨br,λr hr=>?_⟩⟩;have u1:=ax (o:=.tup [.str "step",.int (j:Int)]) gZ;have u2:=ax (o:=.tup [.str "never",.ref k]) hr;rw[n3] at j2;exact Q1 _ _ (sU.trans (u1.trans u2)) (.nQ r k j rfl az (u2 _ _ az) (getD_none (by lia) j2))
 rintro _ yR σ H3 ⟨rfl,rfl,hA⟩;subst yR;refine aH (λσ H4=>σ=[some (.ref x),some (.ref b),some (.ref s),some (.ref gl),none,none,none]/\H4=H3/\(ff ps t.toNat).any abu=false) (λN hN=>?_) ?_
 .rfl';refine⟨gl,zs,rfl,rfl,ah.of iI,k1,?_⟩;rw[k2];cases hB:(ff ps t.toNat).any abu with
  | false =>
   rfl';exact hN _ _ ⟨rfl,rfl,hB⟩
  | true =>
   rfl';obtain⟨j,j1,j2,j3⟩:=zd (d:=V.non) (k2.trans hB);refine⟨.inl ⟨rfl,_,ah.of iI⟩,gl,zs,j,rfl,rfl,ah.of iI,k1,j1,by lia,j2,j3,br,λk gZ=>⟨br,λr hr=>?_⟩⟩;have u1:=ax (o:=.tup [.str "at",.int (j:Int)]) gZ;have u2:=ax (o:=.tup [.str "never",.ref k]) hr;rw[k3] at j2;exact Q1 _ _ (sU.trans (u1.trans u2)) (.gol r k j rfl az (u2 _ _ az) (getD_none (by lia) j2))
 rintro _ yR σ H4 ⟨rfl,rfl,hB⟩;subst yR;obtain⟨pp,ep,ao⟩:=Gm (f:=λ(k:Nat)=>dH (none,none) ((some (-d),some u)::sel ps "step" (k:Int))) (λk s h=>Rv h) (Y1 (t-1).toNat) λk hk e=>Gn hA _ (YO.mpr ⟨k,hk,rfl⟩) e;replace ep:dw u d ps (t-1).toNat=pp.map fI:=ep;obtain⟨gs,eg⟩:=all_some _ (Gn hB);have Yl:pp.length=(t-1).toNat:=by rw[<- wl,ep,Yw]
 have Ym:gs.length=t.toNat:=by rw[<- gw,eg,Yw]
 rw[ep] at Bo;have Jd:=Gq Bo;have Bp:=hG;rw[eg] at Bp;have M1:∀ mm∈fg gs,mm.1<=pp.length:=λmm hm=>by have:=(Jc hm).1;lia
 have M2:∀ r∈tb,r.1.2.toNat<=pp.length:=λr hr=>by have ho:=bW.2 r hr;unfold lh at ho;lia
 refine aH (λσ H5=>∃ k vs,σ=[some (.ref x),some (.ref b),some (.ref s),some (.ref gl),some (.ref k),none,none]/\ak H4 H5/\H5 k=some (.lst vs)/\ay (dI H5) vs (fg gs)) (λN hN=>?_) ?_
 .rfl';refine⟨zs,ah.of iI,λl vs H5 s5 _ hl VQ hv=>hN _ _ ⟨l,vs,rfl,s5,hl,ay.vV (by rw[VQ,vU,Bp.len,Yw]) λi y mk e1 e2=>?_⟩⟩;obtain⟨f1,f2⟩:=Jb e2;obtain⟨z,hz,rz⟩:=Bp.at (i:=i) (by rw[YF,f2];rfl);obtain⟨p0,rfl,_,h5⟩:=hv i y z e1 hz;obtain⟨pz,rfl,hpz⟩:=rz;exact⟨p0,pz,rfl,by rw[h5,f1],s5 _ _ hpz⟩
 rintro _ yR σ H5 ⟨k,vs,rfl,s5,hkl,hM⟩;subst yR;have vl:=hM.len;rw[vU] at vl;have S5:=sU.trans s5;have vn:vs.length<=12:=by lia
 refine aH (λσ H6=>∃ c ws cs,σ=[some (.ref x),some (.ref b),some (.ref s),some (.ref gl),some (.ref k),some (.ref c),none]/\ak H5 H6/\H6 c=some (.lst ws)/\ay (ed H6) ws cs/\cs.length<=64/\vd pp (ju (fg gs) e.toNat tb) cs/\∀ g∈ju (fg gs) e.toNat tb,∀ h∈ju (fg gs) e.toNat tb,jt pp g h cs) (λN hN=>?_) ?_
 .rfl';refine⟨br,λt0 VR=>⟨by decide,λl0 fM=>?_⟩⟩;have u1:=ax (o:=.tup [.non,.ref k]) VR;have u2:=ax (o:=.lst [.ref t0]) fM;have U:=u1.trans u2;refine⟨x,p,e,t,u,d,m,tb,rfl,hb.same (S5.trans U),bW.1,by lia,λr hr=>(bW.2 r hr).2.1,e0,e7,λl ws H6 s6 _ hl Je=>?_⟩;have Jf:=Je.len;unfold qT at Jf;rw[Yw,Yw,YQ] at Jf;refine⟨l,rfl,[.ref t0],s6 _ _ az,ws,hl,YE (by show 1+ws.length<=30;lia) (by decide),λc hc=>?_⟩;have u3:=ax (o:=.lst ([.ref t0]++ws)) hc;have S6:=s5.trans (U.trans (s6.trans u3));refine⟨s,c,ys,.ref t0::ws,pp,ju (fg gs) e.toNat tb,rfl,ah.of (S6 _ _ b5),Jd.same S6,ao,by lia,ah.of az,⟨⟨t0,k,vs,rfl,(u2.trans (s6.trans u3)) _ _ az,(U.trans (s6.trans u3)) _ _ hkl,hM.imp λ_ _ r=>r.same (U.trans (s6.trans u3))⟩,Je.imp λ_ _ r=>r.same u3⟩,?_,λg hg=>?_,λl7 VS VT H7 s7 _ a1 a2 a3 a4 a5=>hN _ _ ⟨l7,VS,VT,rfl,U.trans (s6.trans (u3.trans s7)),a1,a2,a3,a4,a5⟩⟩
  .unfold ju qT;rw[Zr,Yw,Yw,YQ];lia
  .rcases YV.mp hg with rfl|z
   .exact⟨by show (fg gs).length<=1000;rw[vU];lia,M1⟩
   .obtain⟨g1,m8,rfl⟩:=YO.mp z;obtain⟨i,_,rfl⟩:=YO.mp m8;refine⟨YE (by unfold lr;rw[Yw];exact YE (Ze _ _) (by rw[mR];exact YD _)) (by lia:tb.length<=1000),λmm cv=>?_⟩;obtain⟨r,hr,_,rfl⟩:=ze.mp cv;exact M2 r hr
 rintro _ yR σ H6 ⟨c,ws,cs,rfl,s6,hc,hC,aX,hsnd,qu⟩;subst yR;have S6:=S5.trans s6;refine aH (λσ H7=>∃ av,σ=[some (.ref x),some (.ref b),some (.ref s),some (.ref gl),some (.ref k),some (.ref c),some av]/\ak H6 H7/\((av = .non/\gu (m.toNat+1) cs) ∨ ∃ f es,av = .ref f/\H7 f=some (.lst (es.map V.int))/\qU es cs/\es.length<=m.toNat)) (λN hN=>?_) ?_
 .rfl';refine⟨_,_,_,S6 _ _ hx,T.bI,T.pH,_,rfl,?_⟩;exact⟨c,ws,cs,m.toNat,by rw[aao m0],by lia,by lia,hc,hC,aX,λH7 s7 h7=>hN _ _ ⟨_,rfl,s7,.inl ⟨rfl,h7⟩⟩,λr es H7 s7 _ hr h1 h2=>hN _ _ ⟨_,rfl,s7,.inr ⟨r,es,rfl,hr,h1,h2⟩⟩⟩
 rintro _ yR σ H7 ⟨av,rfl,s7,⟨rfl,cg⟩|⟨f,es,rfl,hf,hcov,hle⟩⟩<;>subst yR
 .have S7:=S6.trans s7;rfl';refine⟨_,_,_,S7 _ _ hx,T.bI,T.pH,_,rfl,?_⟩;refine⟨c,m,ws,cs,m.toNat+1,rfl,by lia,by lia,s7 _ _ hc,hC.imp λ_ _ r=>r.same s7,aX,cg,λv H8 s8 h8=>⟨br,λz hz=>?_⟩⟩;have u1:=ax (o:=.tup [.str "never",v]) hz;exact Q1 _ _ (S7.trans (s8.trans u1)) (.pap z v _ pp gs rfl az (h8.same u1) (YE (Ja _ _) (by lia)) ep eg (Gs _ _ _ cg (by rw[abh];lia) (snd_mk bW (λmm hm=>(Jc hm).2) hsnd)))
 .have S7:=S6.trans s7;have M3:∀ mm∈fg gs++b8 tb es,mm.1<=pp.length:=λmm hm=>by
   rcases YX.mp hm with z|z
   .exact M1 mm z
   .obtain⟨r,hr,_,rfl⟩:=qV.mp z;exact M2 r hr
  have VU:=RC bW ao M3 hcov qu;rfl';refine⟨x,p,f,e,t,u,d,m,tb,es,rfl,hb.same S7,bW.1,by lia,λr hr=>(bW.2 r hr).2.1,ah.of hf,by lia,λr rs H8 s8 hr pO=>⟨r,rfl,vs,(s6.trans (s7.trans s8)) _ _ hkl,rs,hr,?_,λk2 kr=>?_⟩⟩
  .replace pO:ay (dI H8) rs (b8 tb es):=pO;have e1:=pO.len;have e2:(b8 tb es).length<=tb.length:=by unfold b8;rw[Yw];exact YE (Ze _ _) (by rw[mR];exact YD _)
   exact YE (by lia:_<=100) (by decide)
  replace pO:ay (dI H8) rs (b8 tb es):=pO;have u1:=ax (o:=.lst (vs++rs)) kr;have W:=s5.trans (s6.trans (s7.trans (s8.trans u1)));have X8:=S7.trans (s8.trans u1);have ml:(fg gs++b8 tb es).length<=1000:=by
   rw[YJ,vU];have e2:(b8 tb es).length<=tb.length:=by unfold b8;rw[Yw];exact YE (Ze _ _) (by rw[mR];exact YD _)
   lia
  refine⟨s,k2,ys,vs++rs,pp,fg gs++b8 tb es,rfl,ah.of (W _ _ b5),Jd.same W,ah.of az,ay.app (hM.imp λ_ _ r=>r.same (s6.trans (s7.trans (s8.trans u1)))) (pO.imp λ_ _ r=>r.same u1),ao,by lia,ml,M3,λcg=>absurd VU cg,λl9 co H9 s9 f9 vW Yn dv rg=>⟨br,λz hz=>?_⟩⟩;have u9:=ax (o:=.tup [.str "may",.ref l9]) hz;refine Q1 _ _ (X8.trans (s9.trans u9)) (.may z l9 co pp gs es rfl az (u9 _ _ vW) (X8.free f9) (by lia) ep eg dv (λtt ss hh=>?_) (by lia) λmm hm=>rg mm (YL _ hm));refine rg (tt,ss) (Zl _ (aac.mpr ⟨tt,?_⟩));have VV:=(YC.mp hh).1;unfold fg;rw[YF,Zb VV];show some (tt,gs.getD tt _)=_;rw[Yv,hh];rfl
theorem Bq(f:P2->Int):∀ {n:Nat},i+n<=ps.length->((Y1 n).map λk=>f (aB ps (i+k))).sum=pre f ps (i+n)-pre f ps i
 | 0,_=>by simp
 | n+1,h=>by rw[acN,Zd,agf,Bq f (by lia),show i+(n+1)=i+n+1 by lia,fT _ _ (by lia)];simp only[YW,acb,agJ,ag1];lia
theorem Jg{H:Hp}{ps:List P2}{i n:Nat}{f:P2->Int}{te:TE}{ρ:St}{Q:VK}(h9:n<=900)(he:∀ k:Nat,k<n->∀ Q:VK,Q (.int (f (aB ps (i+k)))) H->te (some (.int ((i:Int)+(k:Nat)))::ρ) H Q)
 (q:∀ l,H l=none->Q (.ref l) (upd H l (.lst (((Y1 n).map λk=>f (aB ps (i+k))).map V.int)))):kX (eU (i:Int) n) ρ xl te H Q:=by
 refine bS ir (by rw[Yw,YQ];exact YE h9 (by decide)) (k8 (R:=λx (k:Nat)=>x=V.int ((i:Int)+(k:Nat))) (as:=Y1 n) (p:=λ_=>true) (f:=λk=>.int (f (aB ps (i+k)))) trivial ?_ (λ_ _ _ _ Q h=>h) (λx k hk _ r Q h=>?_) ?_)
 .exact ay.vV (by rw[Yw]) λj x a h1 h2=>by rw[YF,h2] at h1;cases h1;rfl
 .subst r;exact he k (ZK.mp hk) Q h
 .rw[YY,Z9.mpr λ_ _=>rfl];rw[ZG] at q;exact q
inductive VW(K:Yu)(vs:List V)(H:Hp)(Q:VK)(aQ:XK):Prop
 | mk(s:YN)(zs:List V)(ps:List P2)(i j:Nat)(_:vs=[.ref s,.int i,.int j])(_:ah K H s zs)(_:eI H zs ps)(_:ps.length<=900)(_:i<=ps.length)(_:j<=ps.length)(_:∀ H',ak H H'->Q (.int (bA ps i j)) H')
theorem VX(T:Tx K mg):Ok P w base 1 T.lT (VW K):=by
 refine aY AS ?_;rintro _ _ _ s H _ Q _ _ ⟨s,zs,ps,i,j,rfl,hs,hP,h9,hi,hj,q⟩;refine⟨_,(ar (aI 3 AS.nd (a9 (DX rfl) (by rfl) T.HR C0 (ae (cN (bC.mk (fr:=[0]) (ys:=["_law_steps"]) rfl (by decide +kernel) rfl (by decide +kernel) rfl rfl (.cons rfl .nil) (.cons rfl rfl rfl rfl .nil) (by decide) rfl) rfl (wH rfl T.dt (ae (aa 1) (ae (aa 2) ag))) (λC s2 H2 ex pn=>⟨cQ,(cz (K:=K) (cz (K:=K) (aa 1) (aa 0)) af)⟩)) ag)))
  (au (aA (aF dn (aa 3) (a9 (DX rfl) (by rfl) T.HR C0 (ae (cN (bC.mk (fr:=[0]) (ys:=["_law_steps"]) rfl (by decide +kernel) rfl (by decide +kernel) rfl rfl (.cons rfl .nil) (.cons rfl rfl rfl rfl .nil) (by decide) rfl) rfl (wH rfl T.dt (ae (aa 2) (ae (aa 1) ag))) (λC s2 H2 ex pn=>⟨cQ,(cz (K:=K) (cz (K:=K) (aa 1) (aa 0)) af)⟩)) ag)))))),?_⟩
 have hl:=hP.len;have row:∀ (H':Hp) (k:Nat),ak H H'->k<ps.length->∃ p,cE zs (k:Int)=some (.ref p)/\H' p=some (.tup [.int (aB ps k).1,.int (aB ps k).2]):=λH' k s' hk=>by obtain⟨v,hv,p,rfl,hp⟩:=hP.at (Yx (l:=ps) (i:=k) hk);refine⟨p,cF hv,?_⟩;rw[show ps[k]=aB ps k by unfold aB;rw[Yv,Yx hk];rfl] at hp;exact s' _ _ hp
 rfl';refine⟨by lia,by lia,by lia,by lia,Jg (ps:=ps) (f:=λp=>p.2) (by lia) (λk hk Q h=>?_) λl ki=>?_⟩
 .obtain⟨p,e,hp⟩:=row H (i+k) (ak.refl _) (by lia);rfl';exact bq hs (by rw[<- e];congr 1) (aq (aj.of hp) rfl h)
 have u1:=ax (o:=.lst (((Y1 (((j:Int)-(i:Int)).toNat)).map λk=>(aB ps (i+k)).2).map V.int)) ki;refine⟨l,rfl,_,ah.of az,by lia,by lia,by lia,by lia,Jg (ps:=ps) (f:=λp=>p.1) (by lia) (λk hk Q h=>?_) λl2 bp=>?_⟩
 .obtain⟨p,e,hp⟩:=row _ (j+k) u1 (by lia);rfl';exact bq (u1.seq hs) (by rw[<- e];congr 1) (aq (aj.of hp) rfl h)
 refine⟨l2,rfl,_,ah.of az,?_⟩;have fin:=q _ (u1.trans (ax (o:=.lst (((Y1 (((i:Int)-(j:Int)).toNat)).map λk=>(aB ps (j+k)).1).map V.int)) bp));have e:bA ps i j=((Y1 (((j:Int)-(i:Int)).toNat)).map λk=>(aB ps (i+k)).2).sum-((Y1 (((i:Int)-(j:Int)).toNat)).map λk=>(aB ps (j+k)).1).sum:=by
  unfold bA;by_cases gv:i<=j
  .rw[if_pos gv,show ((i:Int)-(j:Int)).toNat=0 by lia,Bq (λp=>p.2) (by lia),show i+((j:Int)-(i:Int)).toNat=j by lia];simp
  .rw[if_neg gv,show ((j:Int)-(i:Int)).toNat=0 by lia,Bq (λp=>p.1) (by lia),show j+((i:Int)-(j:Int)).toNat=i by lia];simp;lia
 rw[e] at fin;exact fin
inductive VY(K:Yu)(vs:List V)(H:Hp)(Q:VK)(aQ:XK):Prop
 | mk(v:V)(w a b z:YN)(e t u d mo:Int)(zs:List V)(gs:List S2)(tb:Tb)(as:List Int)(s:En × Nat)(m:Mk)(_:vs=[v,.ref b,.ref a,.ref z])(_:fK H v w e t u d mo tb)(_:(tb.map (·.1)).Nodup)(_:H a=some (.tup [ev s.1,.int (s.2:Int)]))(_:ah K H b zs)(_:ay (λv x=>aG H v x.1 x.2) zs gs)(_:(∀ x∈gs,aO x.1 x.2=false))(_:H z=some (.lst (as.map V.int)))(_:iH gs tb as s m)(_:(∀ r∈tb,r.1.2.toNat<gs.length))(_:∀ v,aG H v m.2.1 m.2.2->Q v H)
theorem Jh(T:Tx K mg):Ok P w base 2 T.iO (VY K):=by
 refine aY HL ?_;rintro _ _ _ _ _ _ _ _ hr ⟨v,w,a,b,z,e,t,u,d,mo,zs,gs,tb,as,⟨o,k⟩,⟨k2,wd⟩,rfl,⟨r,rfl,hR,hT⟩,fH,ha,hb,hG,dv,hz,⟨hk,hm⟩,aU,q⟩;refine⟨_,(ar (aJ (PW.pt (cI (cU (cy (a9 mC (by rfl) T.kz jM (ae (aa 2) (ae (mh (v:=.ty "tuple") rfl T.HS C1 rfl) ag))))) (eB (nk (a9 cK (by rfl) T.cp cf (ae (aa 2) ag)) af)))) (au (aA bJ)) aK)
  (ar (aJ (PW.pt (cI (cU (cy (aE (vJ T) hr (ae (aw (aa 2) af) ag)))) (cI (nj (aw (aa 2) af) af) (eB (GQ (aw (aa 2) af) (a9 cK (by rfl) T.cp cf (ae (aa 1) ag))))))) (au (aA bJ)) aK)
  (ar (aJ (dq (aw (aa 2) af)) (ar (aJ (cy (aE (A3 T) hr (ae (aw (aa 1) (aw (aa 2) af)) ag))) (au (aA bJ)) aK)
    (au (aA (aw (aa 1) (aw (aa 2) af))))) aK)
  (ar (aJ (PW.pt (cI (cU (cy (aE (vJ T) hr (ae (aw (aa 2) af) ag)))) (cI (iZ w6 (aw (aa 2) af) (aa 3) (by with_unfolding_all rfl)) (eB (tJ (EG (eX hr) (aa 2) (aw (aa 0) af))))))) (au (aA bJ)) aK)
  (au (aA (uQ (eX hr) (aw (aa 0) af) (aa 2) (λ_ _=>rfl)))))))),?_⟩
 obtain rfl:k2=k:=hk;have iI:=hG.len;have Ji:k2<zs.length:=by
  cases o with
  | none =>
   have:=(YC.mp (show gs[k2]?=some wd from hm)).1;lia
  | some x =>
   have:=aU _ hm.2;rw[Zq] at this;lia
 rfl';refine C3 ha ?_;rfl';refine⟨_,oi (aj.of ha),?_⟩;rfl';refine aq (aj.of ha) (v:=.int k2) rfl ⟨_,rfl,.inr ⟨_,rfl⟩,?_⟩;simp only[isWhole];rfl';refine aq (aj.of ha) (v:=.int k2) rfl ?_;rfl';refine aT (λh0=>absurd h0 (by lia)) λ_=>aq (aj.of ha) (v:=.int k2) rfl ⟨_,dO hb,?_⟩;rfl';refine aT (λh0=>absurd h0 (by lia)) λ_=>aq (aj.of ha) (v:=ev o) rfl ?_;cases o with
 | none =>
  obtain⟨v,hv,pz,rfl,hp⟩:=hG.at (i:=k2) (a:=wd) hm;rfl';refine aq (aj.of ha) (v:=.int k2) rfl (bq hb (cF hv) ⟨pz,wd.1,wd.2,rfl,aj.of hp,?_⟩);rw[dv wd (aac.mpr ⟨_,hm⟩)];rfl';exact aq (aj.of ha) (v:=.int k2) rfl (bq hb (cF hv) (q _ ⟨pz,rfl,hp⟩))
 | some e =>
  rfl';refine aq (aj.of ha) (v:=.int e) rfl ⟨_,rfl,.inr ⟨_,rfl⟩,?_⟩;simp only[isWhole];rfl';refine aq (aj.of ha) (v:=.int e) rfl ?_;rfl';obtain⟨zr,bK⟩:e∉as/\((e,((k2:Nat):Int)),wd)∈tb:=hm;obtain⟨kvs,qx,hA⟩:=id hT;obtain⟨vv,hvv,va,rfl,hva⟩:=(hA.val (e,((k2:Nat):Int))).2 _ (oR fH bK);refine⟨z,_,rfl,.inl (ah.of hz),rfl,FE as,⟨_,rfl,?_⟩⟩;rw[yJ];refine aT (λh0=>absurd h0 (by simpa using zr)) λ_=>?_;refine aq (aj.of hR) (v:=.ref w) rfl ?_;rfl';refine⟨_,eJ.t (k:=bE e (k2:Int)) qx ha,?_⟩;rw[hvv];refine aT (λh0=>nomatch h0) λ_=>?_;refine aq (aj.of hR) (v:=.ref w) rfl ?_;exact⟨w,rfl,.ref va,by rw[<- hvv];exact eJ.t (k:=bE e (k2:Int)) qx ha,q _ ⟨va,rfl,hva⟩⟩
inductive VZ(K:Yu)(vs:List V)(H:Hp)(Q:VK)(aQ:XK):Prop
 | mk(v:V)(w c:YN)(e t u d m:Int)(tb:Tb)(cs:List Int)(_:vs=[v,.ref c])(_:fK H v w e t u d m tb)(_:1<=t)(_:t<=12)(_:bL e t tb)(_:tb.length<=60)(_:H c=some (.lst (cs.map V.int)))(_:cs.length=t.toNat)(_:(∀ k,k+1<cs.length->-d<=dm cs (k+1)-dm cs k/\dm cs (k+1)-dm cs k<=u))(_:(∀ zs:List Int,zs.Nodup->(∀ i,i∈zs↔A9 tb cs i)->(zs.length:Int)<=m))(_:∀ H',ak H H'->Q (.bl true) H')
inductive vX(H:Hp)(v:V)(c:YN)(_:Nat)(σ:St)(H1:Hp):Prop
 | mk(e1:Option V)(_:σ=[some v,some (.ref c),e1])(_:ak H H1)
theorem V0(T:Tx K mg):Ok P w base 3 T.sH (VZ K):=by
 refine aY AR ?_;rintro _ _ _ _ H _ Q _ hr ⟨v,w,c,e,t,u,d,m,tb,cs,rfl,hW,t1,t2,ao,kA,hc,aX,cc,lx,q⟩;refine⟨_,(ar (aJ (PW.pt (cI (cU (cy (a9 mC (by rfl) T.kz jM (ae (aa 1) (ae (mh (v:=.ty "list") rfl T.pF oh rfl) ag))))) (eB (nk (a9 cK (by rfl) T.cp cf (ae (aa 1) ag)) (aw (aa 0) af))))) (au (aA fj)) aK)
  (ar (aJ (cU (cy (a9 (DY rfl) (by rfl) T.HN CZ (ae (cN (bC.mk (fr:=[]) (ys:=[]) rfl (by decide +kernel) rfl (by decide +kernel) rfl rfl .nil .nil (by decide) rfl) rfl (cC (aa 1)) (λC s2 H2 ex pn=>⟨cQ,(aE (vJ T) hr (ae (aa 0) ag))⟩)) ag)))) (au (aA fj)) aK)
  (ar (cW Zk rfl (ft rfl T.dt (ae (aF dn (aw (aa 0) af) af) ag)) (ck 2 AR.nd) (au (aJ (cU (cy (aE (A2 T) hr (ae (bb (ae (aF dn af (aw (aa 0) af)) (ae (aw (aa 0) af) ag))) (ae (aF dn (aw (aa 1) (aF bG (aa 2) af)) (aw (aa 1) (aa 2))) ag))))) (au (aA fj)) aK)))
  (au (aA (eV (jx gI) (aE (US T) hr (ae (aa 0) (ae (aa 1) ag))) (aw (aa 0) af) (cO _))))))),?_⟩
 obtain⟨r,rfl,hR,hT⟩:=id hW;refine aH (vX H (.ref r) c 0) (λN hN=>?_) ?_
 .rfl';refine C4 hc ?_;rfl';refine⟨_,dO (ah.of hc),aq (aj.of hR) (v:=.int t) rfl ?_⟩;rw[Yw,aX];rfl';rw[if_neg (λz=>z (by lia))];exact hN _ _ ⟨_,rfl,ak.refl _⟩
 rintro _ yR σ H1 ⟨e1,rfl,s1⟩;subst yR;refine aH (vX H (.ref r) c 0) (λN hN=>?_) ?_
 .rfl';refine⟨⟨_,ah.of (s1 _ _ hc)⟩,bS fA (YE (by rw[Yw];lia:(cs.map V.int).length<=100) (by decide)) (k8 (R:=λx (n:Int)=>x=V.int n) (as:=cs) (p:=λ_=>true) (f:=λ_=>.bl true) (ah.of (s1 _ _ hc)) ?_ (λ_ _ _ _ Q h=>h) (λx n _ _ r Q h=>?_) λl hl=>?_)⟩
  .exact ay.vV (by rw[Yw]) λj x a h1 h2=>by rw[YF,h2] at h1;cases h1;rfl
  .subst r;rfl';refine⟨_,rfl,.inr ⟨_,rfl⟩,?_⟩;simp only[isWhole];exact h
  .rw[YY,Z9.mpr λ_ _=>rfl];refine⟨l,rfl,cs.map λ_=>true,ah.of (by rw[az,ZG];rfl),?_⟩;rw[if_neg (by simp)];exact hN _ _ ⟨_,rfl,s1.trans (ax hl)⟩
 rintro _ yR σ H2 ⟨e1,rfl,s2⟩;subst yR;refine aH (vX H (.ref r) c 0) (λN hN=>?_) ?_
 .rfl';refine aq (aj.of (s2 _ _ hR)) (v:=.int t) rfl ?_;rfl';refine⟨by lia,by lia,kQ (vX H (.ref r) c) ⟨_,rfl,s2⟩ ?_ (λσ H3 ⟨e1,h1,h2⟩=>hN _ _ ⟨e1,h1,h2⟩)⟩;rintro i σ H3 hi ⟨e1,rfl,s3⟩;rfl';refine aq (aj.of (s3 _ _ hR)) (v:=.int d) rfl (aq (aj.of (s3 _ _ hR)) (v:=.int u) rfl ⟨br,λp hp=>?_⟩);have u4:=ax (o:=.tup [.int (0-d),.int u]) hp;have S4:=s3.trans u4;have bi:i+1<cs.length:=by lia
  refine bq (ah.of (S4 _ _ hc)) (int_at (by lia) (by lia)) (bq (ah.of (S4 _ _ hc)) (int_at (by lia) (by lia)) ⟨p,some (0-d),some u,_,rfl,aj.of az,?_⟩);have hs:=cc i bi;unfold dm at hs;rw[show ((0:Int)+(i:Int)+1).toNat=i+1 by lia,show ((0:Int)+(i:Int)).toNat=i by lia,uG.mpr ⟨λx hx=>by cases hx;lia,λx hx=>by cases hx;lia⟩];rfl';exact⟨_,rfl,S4⟩
 rintro _ yR σ H3 ⟨e1,rfl,s3⟩;subst yR;rfl';refine⟨.ref r,w,c,e,t,u,d,m,tb,cs,rfl,hW.same s3,ao,kA,ah.of (s3 _ _ hc),aX,λzs H4 s4 hz hm=>?_⟩;rfl';refine aq (aj.of ((s3.trans s4) _ _ hR)) (v:=.int m) rfl ?_;rfl';rw[decide_eq_true (lx zs hz hm)];exact q _ (s3.trans s4)
noncomputable def gi(s:S2):W2:=if aO s.1 s.2=true then none else some s
theorem V1(h:gi s=some x):s=x/\aO s.1 s.2=false:=by
 unfold gi at h;split at h
 .cases h
 .rename_i hc;exact⟨Option.some.inj h,by simpa using hc⟩
theorem Jj(h:gi s=none):aO s.1 s.2=true:=by
 unfold gi at h;split at h
 .rename_i hc;exact hc
 .cases h
theorem Br:∀ {gs:List S2} {fs:List S2},gs.map gi=fs.map some->gs=fs/\∀ x∈gs,aO x.1 x.2=false
 | [],[],_=>⟨rfl,λ_ h=>nomatch h⟩
 | [],_::_,h=>nomatch h
 | _::_,[],h=>nomatch h
 | g::gs,f::fs,h=>by
  obtain⟨h1,h2⟩:=List.cons.inj h;obtain⟨rfl,h3⟩:=V1 h1;obtain⟨rfl,h4⟩:=Br h2;refine⟨rfl,λx hx=>?_⟩;rcases YV.mp hx with rfl|hx
  .exact h3
  .exact h4 x hx
theorem V2(h:ay (λv x=>aG H v x.1 x.2) ys sl)(e:sl.map gi=pp.map fI):eI H ys pp/\(∀ x∈sl,aO x.1 x.2=false)/\sl.length=pp.length:=by obtain⟨rfl,h2⟩:=Br (fs:=pp.map λp=>(some p.1,some p.2)) (by rw[e,ZG];rfl);refine⟨?_,h2,by rw[Yw]⟩;exact (ay.bind h:ay (λv (p:P2)=>aG H v (some p.1) (some p.2)) ys pp)
inductive pP(H:Hp)(wv:V)(w s gl:YN)(sl gs:List S2)(e t u d m:Int)(tb:Tb):Prop
 | mk(ys zs:List V)(_:fK H wv w e t u d m tb)(_:H s=some (.lst ys))(_:ay (λv x=>aG H v x.1 x.2) ys sl)(_:H gl=some (.lst zs))(_:ay (λv x=>aG H v x.1 x.2) zs gs)(_:gs.length=sl.length+1)(_:sl.length<=900)(_:(tb.map (·.1)).Nodup)(_:∀ r∈tb,r.1.2.toNat<=sl.length)
theorem pP.same(h:pP H wv w s gl sl gs e t u d m tb)(x:ak H H'):pP H' wv w s gl sl gs e t u d m tb:=let ⟨ys,zs,a,b,c,d,e,f,g,i,j⟩:=h;⟨ys,zs,a.same x,x _ _ b,c.imp λ_ _ r=>r.same x,x _ _ d,e.imp λ_ _ r=>r.same x,f,g,i,j⟩
inductive pQ(H:Hp)(v:V)(sw gw:List W2)(tb:Tb)(m:Int)(as:List Int)(N:Nat):Prop
 | nQ (k:YN) (j:Nat) (_:v = .ref k) (_:H k=some (.tup [.str "step",.int (j:Int)])) (_:sw[j]?=some none)
 | gol (k:YN) (j:Nat) (_:v = .ref k) (_:H k=some (.tup [.str "at",.int (j:Int)])) (_:gw[j]?=some none)
 | pap (t:Pp) (pp:List P2) (gs:List S2) (_:gH H v t) (_:cZ t<N) (_:sw=pp.map fI) (_:gw=gs.map some) (_:Val pp gs tb m t as)
theorem pQ.same{H H':Hp}{v:V}{sw gw:List W2}{tb:Tb}{m:Int}{as:List Int}{N:Nat}(h:pQ H v sw gw tb m as N)(s:ak H H'):pQ H' v sw gw tb m as N:=by
 rcases h with ⟨k,j,e,h1,h2⟩|⟨k,j,e,h1,h2⟩|⟨t,pp,gs,h1,h2,h3,h4,h5⟩
 .exact .nQ k j e (s _ _ h1) h2
 .exact .gol k j e (s _ _ h1) h2
 .exact .pap t pp gs (h1.same s) h2 h3 h4 h5
inductive vY(K:Yu)(N:Nat)(vs:List V)(H:Hp)(Q:VK)(aQ:XK):Prop
 | mk(wv v:V)(w s gl z:YN)(e t u d m:Int)(sl gs:List S2)(tb:Tb)(as:List Int)(_:vs=[wv,.ref s,.ref gl,v,.ref z])(_:0<N)(_:N<=10)(_:pP H wv w s gl sl gs e t u d m tb)(_:H z=some (.lst (as.map V.int)))(_:as.length+N<=30)(_:pQ H v (sl.map gi) (gs.map gi) tb m as N)(_:∀ H',ak H H'->Q (.bl true) H')
def Jk(pp:List P2)(fs:List S2)(tb:Tb)(m:Int)(a:Pp)(as:List Int)(o:En):Prop:=match o with|none=>a = .nil|some e=>Val pp fs tb m a (as++[e])
inductive Jl(K:Yu)(N:Nat)(vs:List V)(H:Hp)(Q:VK)(aQ:XK):Prop
 | mk(wv v:V)(w s gl z:YN)(e t u d m:Int)(sl gs fs:List S2)(pp:List P2)(tb:Tb)(as:List Int)(o:En)(a:Pp)(_:vs=[wv,.ref s,.ref gl,v,ev o,.ref z])(_:N<=10)(_:pP H wv w s gl sl gs e t u d m tb)(_:H z=some (.lst (as.map V.int)))(_:as.length+1+N<=30)(_:gH H v a)(_:cZ a<N)(_:sl.map gi=pp.map fI)(_:gs.map gi=fs.map some)(_:Jk pp fs tb m a as o)(_:∀ H',ak H H'->Q (.bl true) H')
inductive V3(K:Yu)(N:Nat)(vs:List V)(H:Hp)(Q:VK)(aQ:XK):Prop
 | mk(wv v:V)(w s gl z:YN)(e t u d m:Int)(sl gs fs:List S2)(pp:List P2)(tb:Tb)(as:List Int)(c:Cl)(a b:Pp)(_:vs=[wv,.ref s,.ref gl,v,.ref z])(_:N<=10)(_:pP H wv w s gl sl gs e t u d m tb)(_:H z=some (.lst (as.map V.int)))(_:as.length+1+N<=30)(_:gH H v (.cls c a b))(_:cZ a<N)(_:cZ b<N)(_:sl.map gi=pp.map fI)(_:gs.map gi=fs.map some)(_:Val pp fs tb m (.cls c a b) as)(_:∀ H',ak H H'->Q (.bl true) H')
theorem Jm(T:Tx K mg)(N:Nat)(ih:Ok P w base (3 * N+3) T.gF (vY K N)):Ok P w base (3 * N+4) T.gX (Jl K N):=by
 refine okN T.gX.F HM.1 (λvs H Q E h=>?_) (λaV A outer s H vs Q E hr h=>?_)
 .obtain⟨wv,v,w,s,gl,z,e,t,u,d,m,sl,gs,fs,pp,tb,as,o,a,rfl,_⟩:=h;rfl
 .obtain⟨wv,v,w,s,gl,z,e,t,u,d,m,sl,gs,fs,pp,tb,as,o,a,rfl,hN,hK,hz,hl,ha,la,e1,e2,hv,q⟩:=h;refine⟨_,(ar (aJ (dq (aa 4)) (au (aA (iV (pZ (aa 3))))) aK)
  (au (aA (cD ih (hr.mono (by lia)) rfl T.gF.m T.gF.F.kp T.gF.b .nil bX (ae (aa 0) (ae (aa 1) (ae (aa 2) (ae (aa 3) (ae (aF jL (aa 5) (dB (ae (aa 4) ag))) ag))))))))),?_⟩
  rfl';cases o with
  | none =>
   obtain rfl:a = .nil:=hv;obtain rfl:v = .non:=ha;rfl';exact q _ (ak.refl _)
  | some x =>
   rfl';refine⟨by decide,λp1 fL=>?_⟩;have u1:=ax (o:=.lst [.int x]) fL;refine⟨_,u1 _ _ hz,_,az,YE (by rw[Yw,YR];lia:_<=100) (by decide),λp2 eK=>?_⟩;have u2:=ax (o:=.lst (as.map V.int++[.int x])) eK;have U:=u1.trans u2;exact⟨wv,v,w,s,gl,p2,e,t,u,d,m,sl,gs,tb,as++[x],rfl,by lia,hN,hK.same U,by rw[Zd];exact az,by rw[YJ,YR];lia,.pap a pp fs (ha.same U) la e1 e2 hv,λH' s'=>q _ (U.trans s')⟩
theorem Jn(h:iH gs tb as s m)(hg:gs.length=n+1)(ht:∀ r∈tb,r.1.2.toNat<=n):m.1<=n:=by
 obtain⟨e,h⟩:=h;rw[e];obtain⟨o,k⟩:=s;cases o with
 | none =>
  have:=(YC.mp (show gs[k]?=some m.2 from h)).1;show k<=n;lia
 | some x=>exact ht _ h.2
theorem V4(T:Tx K mg)(N:Nat)(ih:Ok P w base (3 * N+3) T.gF (vY K N)):Ok P w base (3 * N+5) T.ky (V3 K N):=by
 refine okN T.ky.F vB.1 (λvs H Q E h=>?_) (λaV A outer s H vs Q E hr h=>?_)
 .obtain⟨wv,v,w,s,gl,z,e,t,u,d,m,sl,gs,fs,pp,tb,as,c,a,b,rfl,_⟩:=h;rfl
 .obtain⟨wv,v,w,s,gl,z,e,t,u,d,m,sl,gs,fs,pp,tb,as,⟨⟨o,i⟩,⟨o2,i2⟩⟩,a,b,rfl,hM,hK,hz,hl,⟨k,p,p2,x,y,rfl,hk,hp,eK,hx,hy⟩,la,lb,e1,e2,⟨⟨mm,nn,mA,mB,aX⟩,va,vb⟩,q⟩:=h;refine⟨_,(ar (ia (i:=5) vB.nd rfl (acd rfl) (cD (Jh T) (hr.mono (by lia)) rfl T.iO.m T.iO.F.kp T.iO.b .nil bX (ae (aa 0) (ae (aa 2) (ae (bf bh (aa 3) af (λ_ _=>rfl)) (ae (aa 4) ag))))))
  (ar (ia (i:=6) vB.nd rfl (acd rfl) (cD (Jh T) (hr.mono (by lia)) rfl T.iO.m T.iO.F.kp T.iO.b .nil bX (ae (aa 0) (ae (aa 2) (ae (bf bh (aa 3) af (λ_ _=>rfl)) (ae (aa 4) ag))))))
  (ar (aJ (PW.pt (cI (dq (aa 5)) (cI (dq (aa 6)) (eB (cy (a9 (xT rfl) (by rfl) T.AU xg (ae (cN (bC.mk (fr:=[]) (ys:=[]) rfl (by decide +kernel) rfl (by decide +kernel) rfl rfl .nil .nil (by decide) rfl) rfl (cC (aa 1)) (λC s2 H2 ex pn=>⟨cQ,(cD (A3 T) (hr.mono (by lia)) rfl T.iN.m T.iN.F.kp T.iN.b .nil bX (ae (aa 0) ag))⟩)) ag))))))) (au (aA fj)) aK)
  (ar (aJ (PW.pt (cI (dq (bf bh (aa 5) af (λ_ _=>rfl))) (eB (dq (bf bh (aa 6) af (λ_ _=>rfl)))))) (au (aA fj)) aK)
  (ar (aJ (Sq (bf bh (aa 6) af (λ_ _=>rfl)) (aF bG (bf bh (aa 5) af (λ_ _=>rfl)) (cD (VX T) (hr.mono (by lia)) rfl T.lT.m T.lT.F.kp T.lT.b .nil bX (ae (aa 1) (ae (bf bh (bf bh (aa 3) af (λ_ _=>rfl)) af (λ_ _=>rfl)) (ae (bf bh (bf bh (aa 3) af (λ_ _=>rfl)) af (λ_ _=>rfl)) ag)))))) (au (aA fj)) aK)
  (ar (aJ (cU (cy (cD (Jm T N ih) (hr.mono (by lia)) rfl T.gX.m T.gX.F.kp T.gX.b .nil bX (ae (aa 0) (ae (aa 1) (ae (aa 2) (ae (bf bh (aa 3) af (λ_ _=>rfl)) (ae (bf bh (bf bh (aa 3) af (λ_ _=>rfl)) af (λ_ _=>rfl)) (ae (aa 4) ag))))))))) (au (aA fj)) aK)
  (ar (aJ (PW.pt (jF (fc (bf bh (bf bh (aa 3) af (λ_ _=>rfl)) af (λ_ _=>rfl))) (kF (b9 (bf bh (bf bh (aa 3) af (λ_ _=>rfl)) af (λ_ _=>rfl)) (bf bh (bf bh (aa 3) af (λ_ _=>rfl)) af (λ_ _=>rfl)))))) (au (aA (iV (pZ (bf bh (aa 3) af (λ_ _=>rfl)))))) aK)
  (au (aA (cD (Jm T N ih) (hr.mono (by lia)) rfl T.gX.m T.gX.F.kp T.gX.b .nil bX (ae (aa 0) (ae (aa 1) (ae (aa 2) (ae (bf bh (aa 3) af (λ_ _=>rfl)) (ae (bf bh (bf bh (aa 3) af (λ_ _=>rfl)) af (λ_ _=>rfl)) (ae (aa 4) ag)))))))))))))))),?_⟩
  obtain⟨ys,zs,hW,hs,hS,hg,hG,iI,hn,fH,hle⟩:=id hK;obtain⟨rfl,dv⟩:=Br e2;obtain⟨hP,hcs,c8⟩:=V2 hS e1;dsimp only at va vb hp eK;have lt:∀ r∈tb,r.1.2.toNat<gs.length:=λr hr=>by have:=hle r hr;lia
  refine aH (λσ H1=>∃ v1,σ=[some wv,some (.ref s),some (.ref gl),some (.ref k),some (.ref z),some v1,none]/\H1=H/\aG H v1 mm.2.1 mm.2.2) (λN hN=>?_) ?_
  .rfl';exact aq (aj.of hk) (v:=.ref p) rfl ⟨wv,w,p,gl,z,e,t,u,d,m,zs,gs,tb,as,(o,i),mm,rfl,hW,fH,hp,ah.of hg,hG,dv,hz,mA,lt,λv1 h1=>hN _ _ ⟨v1,rfl,rfl,h1⟩⟩
  rintro _ yR σ H1 ⟨v1,rfl,rfl,q1,rfl,Bs⟩;subst yR;refine aH (λσ H2=>∃ v2,σ=[some wv,some (.ref s),some (.ref gl),some (.ref k),some (.ref z),some (.ref q1),some v2]/\H2=H1/\aG H1 v2 nn.2.1 nn.2.2) (λN hN=>?_) ?_
  .rfl';exact aq (aj.of hk) (v:=.ref p2) rfl ⟨wv,w,p2,gl,z,e,t,u,d,m,zs,gs,tb,as,(o2,i2),nn,rfl,hW,fH,eK,ah.of hg,hG,dv,hz,mB,lt,λv1 h1=>hN _ _ ⟨v1,rfl,rfl,h1⟩⟩
  rintro _ yR σ H2 ⟨v2,rfl,rfl,q2,rfl,mM⟩;subst yR;refine aH (λσ H3=>σ=[some wv,some (.ref s),some (.ref gl),some (.ref k),some (.ref z),some (.ref q1),some (.ref q2)]/\ak H2 H3) (λN hN=>?_) ?_
  .rfl';refine⟨⟨_,ah.of hs⟩,bS fA (YE (by rw[hS.len];lia:ys.length<=1000) (by decide)) (k8 (R:=λx (n:S2)=>aG H2 x n.1 n.2) (as:=sl) (p:=λ_=>true) (f:=λ_=>.bl false) (ah.of hs) hS (λ_ _ _ _ Q h=>h) (λx n hn _ r Q h=>?_) λl hl=>?_)⟩
   .obtain⟨pa,rfl,hpa⟩:=r;rfl';refine⟨pa,n.1,n.2,rfl,aj.of hpa,?_⟩;rw[hcs n hn];exact h
   .rw[YY,Z9.mpr λ_ _=>rfl];refine⟨l,rfl,sl.map λ_=>false,ah.of (by rw[az,ZG];rfl),?_⟩;rw[if_neg (by simp)];exact hN _ _ ⟨rfl,ax hl⟩
  rintro _ yR σ H3 ⟨rfl,s3⟩;subst yR;obtain⟨hh,ll,h1,h2,h3⟩:=aX;rw[h1] at Bs;rw[h2] at mM;refine aH (λσ H4=>σ=[some wv,some (.ref s),some (.ref gl),some (.ref k),some (.ref z),some (.ref q1),some (.ref q2)]/\H4=H3) (λN hN=>?_) ?_
  .rfl';refine aq (aj.of (s3 _ _ Bs)) (v:=.int hh) rfl ?_;rfl';refine aq (aj.of (s3 _ _ mM)) (v:=.int ll) rfl ?_;rfl';exact hN _ _ ⟨rfl,rfl⟩
  rintro _ yR σ H4 ⟨rfl,rfl⟩;subst yR;refine aH (λσ H5=>σ=[some wv,some (.ref s),some (.ref gl),some (.ref k),some (.ref z),some (.ref q1),some (.ref q2)]/\ak H2 H5) (λN hN=>?_) ?_
  .rfl';refine aq (aj.of (s3 _ _ mM)) (v:=.int ll) rfl (aq (aj.of (s3 _ _ Bs)) (v:=.int hh) rfl (aq (aj.of (s3 _ _ hk)) (v:=.ref p) rfl (aq (aj.of (s3 _ _ hp)) (v:=.int i) rfl (aq (aj.of (s3 _ _ hk)) (v:=.ref p2) rfl (aq (aj.of (s3 _ _ eK)) (v:=.int i2) rfl ?_)))));have ma:=Jn mA iI hle;have mb:=Jn mB iI hle;have ea:mm.1=i:=mA.1;have eb:nn.1=i2:=mB.1;rw[ea] at ma h3;rw[eb] at mb h3;refine⟨s,ys,pp,i,i2,rfl,ah.of (s3 _ _ hs),hP.imp λ_ _ r=>r.same s3,by lia,by lia,by lia,λH5 s5=>?_⟩;rfl';rw[if_neg (by lia)];exact hN _ _ ⟨rfl,s3.trans s5⟩
  rintro _ yR σ H5 ⟨rfl,s5⟩;subst yR;refine aH (λσ H6=>σ=[some wv,some (.ref s),some (.ref gl),some (.ref k),some (.ref z),some (.ref q1),some (.ref q2)]/\ak H2 H6) (λN hN=>?_) ?_
  .rfl';refine aq (aj.of (s5 _ _ hk)) (v:=x) rfl (aq (aj.of (s5 _ _ hk)) (v:=.ref p) rfl (aq (aj.of (s5 _ _ hp)) (v:=ev o) rfl ?_));refine⟨wv,x,w,s,gl,z,e,t,u,d,m,sl,gs,gs,pp,tb,as,o,a,rfl,hM,hK.same s5,s5 _ _ hz,hl,hx.same s5,la,e1,e2,va,λH6 s6=>?_⟩;rfl';exact hN _ _ ⟨rfl,s5.trans s6⟩
  rintro _ yR σ H6 ⟨rfl,s6⟩;subst yR;rfl';have last:∀ R:V->Hp->Prop,(∀ H',ak H2 H'->R (.bl true) H')->Jk pp gs tb m b as o2->jK K (.ref k) (.int 4) H6 λx H1=>jK K (.ref k) (.int 2) H1 λV5 H1=>jK K V5 (.int 0) H1 λV6 H1=>Jl K N [wv,.ref s,.ref gl,x,V6,.ref z] H1 R E0:=λR hR hv =>
   aq (aj.of (s6 _ _ hk)) (v:=y) rfl (aq (aj.of (s6 _ _ hk)) (v:=.ref p2) rfl (aq (aj.of (s6 _ _ eK)) (v:=ev o2) rfl ⟨wv,y,w,s,gl,z,e,t,u,d,m,sl,gs,gs,pp,tb,as,o2,b,rfl,hM,hK.same s6,s6 _ _ hz,hl,hy.same s6,lb,e1,e2,hv,λH7 s7=>hR _ (s6.trans s7)⟩))
  refine aq (aj.of (s6 _ _ hk)) (v:=.ref p) rfl (aq (aj.of (s6 _ _ hp)) (v:=ev o) rfl ?_);cases o with
  | none =>
   rfl';refine last _ q ?_;cases o2 with
   | none=>exact vb
   | some x=>exact vb
  | some x0 =>
   rfl';refine aq (aj.of (s6 _ _ hk)) (v:=.ref p) rfl (aq (aj.of (s6 _ _ hp)) (v:=.int x0) rfl (aq (aj.of (s6 _ _ hk)) (v:=.ref p2) rfl (aq (aj.of (s6 _ _ eK)) (v:=ev o2) rfl ?_)));refine IV (o:=some x0) (o':=o2) ?_;cases o2 with
   | none=>exact last _ q vb
   | some x2 =>
    replace vb:if (some x0:En)=some x2 then b = .nil else Val pp gs tb m b (as++[x2]):=vb
    by_cases he:(some x0:En)=some x2
    .rw[decide_eq_true he];rw[if_pos he] at vb;subst vb;obtain rfl:y = .non:=hy;exact aq (aj.of (s6 _ _ hk)) (v:=.non) rfl (q _ s6)
    .rw[decide_eq_false he];rw[if_neg he] at vb;exact last _ q vb
theorem V7(T:Tx K mg):∀ N,Ok P w base (3 * N+3) T.gF (vY K N):=by
 intro N
 induction N with
 | zero =>
  refine okN T.gF.F pB.1 (λvs H Q E h=>?_) (λaV A outer s H vs Q E hr h=>?_)
  .obtain⟨wv,v,w,s,gl,z,e,t,u,d,m,sl,gs,tb,as,rfl,hN,_⟩:=h;exact absurd hN (Z6 _)
  .obtain⟨wv,v,w,s,gl,z,e,t,u,d,m,sl,gs,tb,as,rfl,hN,_⟩:=h;exact absurd hN (Z6 _)
 | succ N ih =>
  refine okN T.gF.F pB.1 (λvs H Q E h=>?_) (λaV A outer s H vs Q E hr h=>?_)
  .obtain⟨wv,v,w,s,gl,z,e,t,u,d,m,sl,gs,tb,as,rfl,_⟩:=h;rfl
  .obtain⟨wv,v,w,s,gl,z,e,t,u,d,m,sl,gs,tb,as,rfl,_,hM,hK,hz,hl,hR,q⟩:=h;refine⟨_,(ar (aJ (PW.pt (cI (cU (cy (a9 mC (by rfl) T.kz jM (ae (aa 3) (ae (mh (v:=.ty "tuple") rfl T.HS C1 rfl) ag))))) (eB (b9 (a9 cK (by rfl) T.cp cf (ae (aa 3) ag)) af)))) (au (aA fj)) aK)
    (ar (aJ (b9 (bf bh (aa 3) af (λ_ _=>rfl)) bo) (au (aA (dQ (eV kK (a9 cK (by rfl) T.cp cf (ae (aa 3) ag)) af (cO _)) (eS (eV (jx nZ) (a9 cK (by rfl) T.cp cf (ae (aa 4) ag)) (bf bh (aa 0) af (λ_ _=>rfl)) (cO _)))))) aK)
    (ar (aJ (b9 (bf bh (aa 3) af (λ_ _=>rfl)) bo) (au (aA (dQ (eV kK (a9 cK (by rfl) T.cp cf (ae (aa 3) ag)) af (cO _)) (eS (cD (V4 T N ih) (hr.mono (by lia)) rfl T.ky.m T.ky.F.kp T.ky.b .nil bX (ae (aa 0) (ae (aa 1) (ae (aa 2) (ae (aa 3) (ae (aa 4) ag)))))))))) aK)
    (ar (ia (i:=5) pB.nd rfl (acd rfl) (dB ag))
    (ar (aJ (b9 (bf bh (aa 3) af (λ_ _=>rfl)) bo) (au (ia (i:=5) pB.nd rfl (acd rfl) (aa 1))) aK)
    (ar (aJ (b9 (bf bh (aa 3) af (λ_ _=>rfl)) bo) (au (ia (i:=5) pB.nd rfl (acd rfl) (aa 2))) aK)
    (ar (aJ (PW.pt (cI (nk (a9 cK (by rfl) T.cp cf (ae (aa 3) ag)) af) (cI (cU (cy (cD (vJ T) (hr.mono (by lia)) rfl T.lS.m T.lS.F.kp T.lS.b .nil bX (ae (bf bh (aa 3) af (λ_ _=>rfl)) ag)))) (cI (nj (bf bh (aa 3) af (λ_ _=>rfl)) af) (eB (GQ (bf bh (aa 3) af (λ_ _=>rfl)) (a9 cK (by rfl) T.cp cf (ae (aa 5) ag)))))))) (au (aA fj)) aK)
    (au (aA (cD (A3 T) (hr.mono (by lia)) rfl T.iN.m T.iN.F.kp T.iN.b .nil bX (ae (bf bh (aa 5) (bf bh (aa 3) af (λ_ _=>rfl)) (λ_ _=>rfl)) ag))))))))))),?_⟩
   obtain⟨ys,zs,hW,hs,hS,hg,hG,iI,hn,fH,hle⟩:=id hK;have Bc:∃ (k:YN) (u:V) (us:List V),v = .ref k/\H k=some (.tup (u::us)):=by
    rcases hR with ⟨k,j,rfl,hk,hj⟩|⟨k,j,rfl,hk,hj⟩|⟨t,pp,fs,hp,hh,e1,e2,hv⟩
    .exact⟨k,_,_,rfl,hk⟩
    .exact⟨k,_,_,rfl,hk⟩
    .cases t with
     | nil=>exact hv.elim
     | full=>obtain⟨r,rfl,h⟩:=hp;exact⟨r,_,_,rfl,h⟩
     | cls c a b=>obtain⟨r,_,_,_,_,rfl,h,_⟩:=hp;exact⟨r,_,_,rfl,h⟩
   obtain⟨k,u0,us,rfl,hku⟩:=Bc;refine aH (λσ H2=>σ=[some wv,some (.ref s),some (.ref gl),some (.ref k),some (.ref z),none]/\H2=H) (λN hN=>?_) ?_
   .rfl';refine C3 hku ?_;rfl';refine⟨_,oi (aj.of hku),?_⟩;refine aT (λh0=>absurd h0 (by rw[Zr];lia)) λ_=>hN _ _ ⟨rfl,rfl⟩
   rintro _ yR σ H2 ⟨rfl,rfl⟩;subst yR;rcases hR with ⟨k2,j,e1,hk,hj⟩|⟨k2,j,e1,hk,hj⟩|⟨tt,pp,fs,hp,hh,e1,e2,hv⟩
   .cases e1;refine aH (λσ H3=>σ=[some wv,some (.ref s),some (.ref gl),some (.ref k),some (.ref z),none]/\H3=H2) (λN hN=>?_) ?_
    .rfl';refine aq (aj.of hk) (v:=.str "step") rfl ?_;rfl'
     first|exact hN _ _ ⟨rfl,rfl⟩|exact aT (λh=>absurd h (by decide)) λ_=>hN _ _ ⟨rfl,rfl⟩
    rintro _ yR σ H3 ⟨rfl,rfl⟩;subst yR;refine aH (λσ H4=>σ=[some wv,some (.ref s),some (.ref gl),some (.ref k),some (.ref z),none]/\H4=H3) (λN hN=>?_) ?_
    .rfl';refine aq (aj.of hk) (v:=.str "step") rfl ?_;rfl'
     first|exact hN _ _ ⟨rfl,rfl⟩|exact aT (λh=>absurd h (by decide)) λ_=>hN _ _ ⟨rfl,rfl⟩
    rintro _ yR σ H4 ⟨rfl,rfl⟩;subst yR;refine aH (λσ H5=>∃ l0,σ=[some wv,some (.ref s),some (.ref gl),some (.ref k),some (.ref z),some (.ref l0)]/\ak H4 H5) (λN hN=>?_) ?_
    .rfl';exact⟨by decide,λp hp=>hN _ _ ⟨p,rfl,ax hp⟩⟩
    rintro _ yR σ H5 ⟨l0,rfl,s5⟩;subst yR;refine aH (λσ H6=>σ=[some wv,some (.ref s),some (.ref gl),some (.ref k),some (.ref z),some (.ref s)]/\H6=H5) (λN hN=>?_) ?_
    .rfl';refine aq (aj.of (s5 _ _ hk)) (v:=.str "step") rfl ?_;rfl'
     first|exact hN _ _ ⟨rfl,rfl⟩|exact aT (λh=>absurd h (by decide)) λ_=>hN _ _ ⟨rfl,rfl⟩
    rintro _ yR σ H6 ⟨rfl,rfl⟩;subst yR;refine aH (λσ H7=>σ=[some wv,some (.ref s),some (.ref gl),some (.ref k),some (.ref z),some (.ref s)]/\H7=H6) (λN hN=>?_) ?_
    .rfl';refine aq (aj.of (s5 _ _ hk)) (v:=.str "step") rfl ?_;rfl'
     first|exact hN _ _ ⟨rfl,rfl⟩|exact aT (λh=>absurd h (by decide)) λ_=>hN _ _ ⟨rfl,rfl⟩
    rintro _ yR σ H7 ⟨rfl,rfl⟩;subst yR;rw[YF] at hj;obtain⟨sj,hsj,hcj⟩:=Zh.mp hj;obtain⟨vj,hvj,pj,rfl,hpj⟩:=hS.at hsj;have jl:=(YC.mp hvj).1;refine aH (λσ H8=>σ=[some wv,some (.ref s),some (.ref gl),some (.ref k),some (.ref z),some (.ref s)]/\H8=H7) (λN hN=>?_) ?_
    .rfl';refine⟨_,oi (aj.of (s5 _ _ hk)),?_⟩;rfl';refine aq (aj.of (s5 _ _ hk)) (v:=.int j) rfl ⟨_,rfl,.inr ⟨_,rfl⟩,?_⟩;simp only[isWhole];rfl';refine aq (aj.of (s5 _ _ hk)) (v:=.int j) rfl ?_;rfl';refine aT (λh0=>absurd h0 (by lia)) λ_=>aq (aj.of (s5 _ _ hk)) (v:=.int j) rfl ⟨_,dO (ah.of (s5 _ _ hs)),?_⟩;rfl';exact aT (λh0=>absurd h0 (by lia)) λ_=>hN _ _ ⟨rfl,rfl⟩
    rintro _ yR σ H8 ⟨rfl,rfl⟩;subst yR;rfl';refine aq (aj.of (s5 _ _ hk)) (v:=.int j) rfl (bq (ah.of (s5 _ _ hs)) (cF hvj) ⟨pj,sj.1,sj.2,rfl,aj.of (s5 _ _ hpj),?_⟩);rw[Jj hcj];exact q _ s5
   .cases e1;refine aH (λσ H3=>σ=[some wv,some (.ref s),some (.ref gl),some (.ref k),some (.ref z),none]/\H3=H2) (λN hN=>?_) ?_
    .rfl';refine aq (aj.of hk) (v:=.str "at") rfl ?_;rfl'
     first|exact hN _ _ ⟨rfl,rfl⟩|exact aT (λh=>absurd h (by decide)) λ_=>hN _ _ ⟨rfl,rfl⟩
    rintro _ yR σ H3 ⟨rfl,rfl⟩;subst yR;refine aH (λσ H4=>σ=[some wv,some (.ref s),some (.ref gl),some (.ref k),some (.ref z),none]/\H4=H3) (λN hN=>?_) ?_
    .rfl';refine aq (aj.of hk) (v:=.str "at") rfl ?_;rfl'
     first|exact hN _ _ ⟨rfl,rfl⟩|exact aT (λh=>absurd h (by decide)) λ_=>hN _ _ ⟨rfl,rfl⟩
    rintro _ yR σ H4 ⟨rfl,rfl⟩;subst yR;refine aH (λσ H5=>∃ l0,σ=[some wv,some (.ref s),some (.ref gl),some (.ref k),some (.ref z),some (.ref l0)]/\ak H4 H5) (λN hN=>?_) ?_
    .rfl';exact⟨by decide,λp hp=>hN _ _ ⟨p,rfl,ax hp⟩⟩
    rintro _ yR σ H5 ⟨l0,rfl,s5⟩;subst yR;refine aH (λσ H6=>σ=[some wv,some (.ref s),some (.ref gl),some (.ref k),some (.ref z),some (.ref l0)]/\H6=H5) (λN hN=>?_) ?_
    .rfl';refine aq (aj.of (s5 _ _ hk)) (v:=.str "at") rfl ?_;rfl'
     first|exact hN _ _ ⟨rfl,rfl⟩|exact aT (λh=>absurd h (by decide)) λ_=>hN _ _ ⟨rfl,rfl⟩
    rintro _ yR σ H6 ⟨rfl,rfl⟩;subst yR;refine aH (λσ H7=>σ=[some wv,some (.ref s),some (.ref gl),some (.ref k),some (.ref z),some (.ref gl)]/\H7=H6) (λN hN=>?_) ?_
    .rfl';refine aq (aj.of (s5 _ _ hk)) (v:=.str "at") rfl ?_;rfl'
     first|exact hN _ _ ⟨rfl,rfl⟩|exact aT (λh=>absurd h (by decide)) λ_=>hN _ _ ⟨rfl,rfl⟩
    rintro _ yR σ H7 ⟨rfl,rfl⟩;subst yR;rw[YF] at hj;obtain⟨sj,hsj,hcj⟩:=Zh.mp hj;obtain⟨vj,hvj,pj,rfl,hpj⟩:=hG.at hsj;have jl:=(YC.mp hvj).1;refine aH (λσ H8=>σ=[some wv,some (.ref s),some (.ref gl),some (.ref k),some (.ref z),some (.ref gl)]/\H8=H7) (λN hN=>?_) ?_
    .rfl';refine⟨_,oi (aj.of (s5 _ _ hk)),?_⟩;rfl';refine aq (aj.of (s5 _ _ hk)) (v:=.int j) rfl ⟨_,rfl,.inr ⟨_,rfl⟩,?_⟩;simp only[isWhole];rfl';refine aq (aj.of (s5 _ _ hk)) (v:=.int j) rfl ?_;rfl';refine aT (λh0=>absurd h0 (by lia)) λ_=>aq (aj.of (s5 _ _ hk)) (v:=.int j) rfl ⟨_,dO (ah.of (s5 _ _ hg)),?_⟩;rfl';exact aT (λh0=>absurd h0 (by lia)) λ_=>hN _ _ ⟨rfl,rfl⟩
    rintro _ yR σ H8 ⟨rfl,rfl⟩;subst yR;rfl';refine aq (aj.of (s5 _ _ hk)) (v:=.int j) rfl (bq (ah.of (s5 _ _ hg)) (cF hvj) ⟨pj,sj.1,sj.2,rfl,aj.of (s5 _ _ hpj),?_⟩);rw[Jj hcj];exact q _ s5
   .cases tt with
    | nil=>exact hv.elim
    | full =>
     obtain⟨r,er,cT⟩:=hp;cases er;refine aH (λ_ _=>False) (λN hN=>?_) (λ_ _ _ _ h=>h.elim);rfl';refine aq (aj.of cT) (v:=.str "full") rfl ?_;rfl';refine⟨_,oi (aj.of cT),aT (λ_=>?_) λh0=>absurd rfl h0⟩;obtain⟨r9,rfl,V8,_⟩:=hW;refine⟨_,dO (ah.of hz),aq (aj.of V8) (v:=.int m) rfl ?_⟩;rfl';rw[Yw,decide_eq_true (show m<((as.length:Nat):Int) from hv)];exact q _ (ak.refl _)
    | cls c a b =>
     obtain⟨r,p,p2,x,y,er,hk,fL,eK,hx,hy⟩:=id hp;cases er;refine aH (λσ H3=>σ=[some wv,some (.ref s),some (.ref gl),some (.ref k),some (.ref z),none]/\H3=H2) (λN hN=>?_) ?_
     .rfl';refine aq (aj.of hk) (v:=.str "clash") rfl ?_;rfl'
      first|exact hN _ _ ⟨rfl,rfl⟩|exact aT (λh=>absurd h (by decide)) λ_=>hN _ _ ⟨rfl,rfl⟩
     rintro _ yR σ H3 ⟨rfl,rfl⟩;subst yR;have HA:cZ a<N:=by have h2:(if cZ a<=cZ b then cZ b else cZ a)+1<N+1:=hh;split at h2<;>lia
     have HB:cZ b<N:=by have h2:(if cZ a<=cZ b then cZ b else cZ a)+1<N+1:=hh;split at h2<;>lia
     refine aH (λ_ _=>False) (λN9 hN=>?_) (λ_ _ _ _ h=>h.elim);rfl';refine aq (aj.of hk) (v:=.str "clash") rfl ?_;rfl';exact⟨_,oi (aj.of hk),aT (λ_=>⟨wv,_,w,s,gl,z,e,t,u,d,m,sl,gs,fs,pp,tb,as,c,a,b,rfl,by lia,hK,hz,by lia,hp,HA,HB,e1,e2,hv,q⟩) λh0=>absurd rfl h0⟩
theorem V9(T:Tx K mg):Ok P w base 33 T.gF (vY K 10):=V7 T 10
theorem Wa(u d:Int)(ps:List Pa)(n:Nat):((Y1 n).map (λ(k:Nat)=>aZ (some (-d),some u) (sel ps "step" (k:Int)))).map gi=dw u d ps n:=by unfold dw;rw[ZG];exact aan λk _=>rfl
theorem Wb(ps:List Pa)(n:Nat):((Y1 n).map (λ(k:Nat)=>aZ (none,none) (sel ps "at" (k:Int)))).map gi=ff ps n:=by unfold ff;rw[ZG];exact aan λk _=>rfl
inductive Wc(K:Yu)(vs:List V)(H:Hp)(Q:VK)(aQ:XK):Prop
 | mk(wv v:V)(w cl:YN)(e t u d m:Int)(tb:Tb)(xs:List V)(ps:List Pa)(_:vs=[wv,.ref cl,v])(_:fK H wv w e t u d m tb)(_:1<=t)(_:t<=12)(_:bL e t tb)(_:ah K H cl xs)(_:iA H xs ps)(_:ps.length<=900)(_:pQ H v (dw u d ps (t-1).toNat) (ff ps t.toNat) tb m [] 10)(_:∀ H',ak H H'->Q (.bl true) H')
theorem Wd(T:Tx K mg):Ok P w base 34 T.sJ (Wc K):=by
 refine aY rD ?_;rintro _ _ _ s H _ Q _ hr ⟨wv,v,w,cl,e,t,u,d,m,tb,xs,ps,rfl,hW,t1,t2,ao,hX,hP,hn,hR,q⟩;refine⟨_,(ar (aI 3 rD.nd (bb (ae (aF dn af (aw (aa 0) af)) (ae (aw (aa 0) af) ag))))
  (ar (jU (i:=4) (bC.mk (fr:=[3,1]) (ys:=["_law_own","_law_claim"]) rfl (by decide +kernel) rfl (by decide +kernel) rfl rfl (.cons rfl (.cons rfl .nil)) (.cons rfl rfl rfl rfl (.cons rfl rfl rfl rfl .nil)) (by decide) rfl) rfl rD.nd rfl rfl (ft rfl T.dt (ae (aF dn (aw (aa 0) af) af) ag)) (λC s2 H2 ex pn=>⟨cQ,(aE (Iw T) hr (ae (aa 1) (ae (aa 2) (ae bo (ae (aa 0) ag)))))⟩))
  (ar (jU (i:=5) (bC.mk (fr:=[1]) (ys:=["_law_claim"]) rfl (by decide +kernel) rfl (by decide +kernel) rfl rfl (.cons rfl .nil) (.cons rfl rfl rfl rfl .nil) (by decide) rfl) rfl rD.nd rfl rfl (ft rfl T.dt (ae (aw (aa 0) af) ag)) (λC s2 H2 ex pn=>⟨cQ,(aE (Iw T) hr (ae (bb (ae bJ (ae bJ ag))) (ae (aa 1) (ae bo (ae (aa 0) ag)))))⟩))
  (au (aA (aE (V9 T) hr (ae (aa 0) (ae (aa 4) (ae (aa 5) (ae (aa 2) (ae (dB ag) ag))))))))))),?_⟩
 obtain⟨r,rfl,bQ,hT⟩:=id hW;refine aH (λσ H1=>∃ p,σ=[some (.ref r),some (.ref cl),some v,some (.ref p),none,none]/\ak H H1/\H1 p=some (.tup [.int (-d),.int u])) (λN hN=>?_) ?_
 .rfl';refine aq (aj.of bQ) (v:=.int d) rfl ?_;rfl';refine aq (aj.of bQ) (v:=.int u) rfl ⟨br,λp hp=>hN _ _ ⟨p,rfl,ax hp,?_⟩⟩;rw[az,Int.zero_sub]
 rintro _ yR σ H1 ⟨p,rfl,s1,hp⟩;subst yR;refine aH (λσ H2=>∃ s ys,σ=[some (.ref r),some (.ref cl),some v,some (.ref p),some (.ref s),none]/\ak H H2/\H2 s=some (.lst ys)/\ay (λv x=>aG H2 v x.1 x.2) ys ((Y1 (t-1).toNat).map (λ(k:Nat)=>aZ (some (-d),some u) (sel ps "step" (k:Int))))) (λN hN=>?_) ?_
 .rfl';refine aq (aj.of (s1 _ _ bQ)) (v:=.int t) rfl ?_;rfl';refine⟨by lia,by lia,bS ir (by rw[Yw,YQ];exact YE (by lia:_<=12) (by decide)) (fB (R:=λ_ x (k:Nat)=>x=V.int ((0:Int)+k)) (R':=λH v (x:S2)=>aG H v x.1 x.2) (f:=λ(k:Nat)=>aZ (some (-d),some u) (sel ps "step" (k:Int))) (λ_ _ _ _ _ h=>h) (λ_ _ _ _ s' h=>h.same s') (ay.fP _) (bs:=[]) trivial (λ_ _=>trivial) (λx k _ H2 s2 r Q h=>?_) (λx k _ H2 s2 r Q h=>?_) λH2 zs s2 hz=>?_)⟩
  .rfl';exact h
  .subst r;rfl';refine⟨p,cl,some (-d),some u,xs,ps,"step",_,rfl,aj.of (s2 _ _ hp),(s1.trans s2).seq hX,hP.same (s1.trans s2),by lia,λv H3 s3 hv=>h _ _ s3 ?_⟩;rw[abP] at hv;exact hv
  .intro l hl;rw[YY] at hz;exact hN _ _ ⟨l,zs,rfl,s1.trans (s2.trans (ax hl)),az,hz.imp λ_ _ r=>r.same (ax hl)⟩
 rintro _ yR σ H2 ⟨s,ys,rfl,s2,hs,hS⟩;subst yR;refine aH (λσ H3=>∃ gl zs,σ=[some (.ref r),some (.ref cl),some v,some (.ref p),some (.ref s),some (.ref gl)]/\ak H2 H3/\H3 gl=some (.lst zs)/\ay (λv x=>aG H3 v x.1 x.2) zs ((Y1 t.toNat).map (λ(k:Nat)=>aZ (none,none) (sel ps "at" (k:Int))))) (λN hN=>?_) ?_
 .rfl';refine aq (aj.of (s2 _ _ bQ)) (v:=.int t) rfl ?_;rfl';refine⟨by lia,by lia,bS ir (by rw[Yw,YQ];exact YE (by lia:_<=12) (by decide)) (fB (R:=λ_ x (k:Nat)=>x=V.int ((0:Int)+k)) (R':=λH v (x:S2)=>aG H v x.1 x.2) (f:=λ(k:Nat)=>aZ (none,none) (sel ps "at" (k:Int))) (λ_ _ _ _ _ h=>h) (λ_ _ _ _ s' h=>h.same s') (ay.fP _) (bs:=[]) trivial (λ_ _=>trivial) (λx k _ H4 s4 r Q h=>?_) (λx k _ H4 s4 r Q h=>?_) λH4 zs s4 hz=>?_)⟩
  .rfl';exact h
  .subst r;rfl';refine⟨br,λp2 eK=>?_⟩;have u2:=ax (o:=.tup [.non,.non]) eK;have U:=s2.trans (s4.trans u2);refine⟨p2,cl,none,none,xs,ps,"at",_,rfl,aj.of az,U.seq hX,hP.same U,by lia,λv H3 s3 hv=>h _ _ (u2.trans s3) ?_⟩;rw[abP] at hv;exact hv
  .intro l hl;rw[YY] at hz;exact hN _ _ ⟨l,zs,rfl,s4.trans (ax hl),az,hz.imp λ_ _ r=>r.same (ax hl)⟩
 rintro _ yR σ H3 ⟨gl,zs,rfl,s3,hg,hG⟩;subst yR;rfl';refine⟨by decide,λp9 A8=>?_⟩;have u9:=ax (o:=.lst []) A8;have U:=s2.trans (s3.trans u9);refine⟨.ref r,v,w,s,gl,p9,e,t,u,d,m,_,_,tb,[],rfl,by decide,by decide,⟨ys,zs,hW.same U,(s3.trans u9) _ _ hs,hS.imp λ_ _ x=>x.same (s3.trans u9),u9 _ _ hg,hG.imp λ_ _ x=>x.same u9,?_,?_,ao.1,λx hx=>?_⟩,az,by decide,?_,λH' s'=>q _ (U.trans s')⟩
 .rw[Yw,Yw,YQ,YQ];lia
 .rw[Yw,YQ];lia
 .rw[Yw,YQ];obtain⟨⟨b1,b2⟩,b3,b4⟩:=ao.2 x hx;lia
 .rw[Wa,Wb];exact hR.same U
inductive We(K:Yu)(vs:List V)(H:Hp)(Q:VK)(aQ:XK):Prop
 | mk(n:Nat)(_:vs=[.int n])(_:n<=7)(_:∀ l ys H',ak H H'->H' l=some (.lst ys)->ay (j9 H') ys (cw n)->Q (.ref l) H')
inductive Wf(H:Hp)(n i:Nat)(σ:St)(H1:Hp):Prop
 | mk(l:YN)(ys:List V)(e:Option V)(_:σ=[some (.int n),some (.ref l),e])(_:ak H H1)(_:H1 l=some (.lst ys))(_:ay (j9 H1) ys (cw i))
theorem Wg(T:Tx K mg):Ok P w base 1 T.sk (We K):=by
 refine aY rq ?_;rintro _ _ _ s H _ Q _ _ ⟨n,rfl,hn,q⟩;refine⟨_,(ar (aI 1 rq.nd (dB (ae (dB ag) ag)))
  (ar (cW Zk rfl (ft rfl T.dt (ae (aa 0) ag)) (ck 2 rq.nd) (au (aI 1 rq.nd (aF jL (aa 1) (cN (bC.mk (fr:=[2]) (ys:=["eye"]) rfl (by decide +kernel) rfl (by decide +kernel) rfl rfl (.cons rfl .nil) (.cons rfl rfl rfl rfl .nil) (by decide) rfl) rfl (cC (aa 1)) (λC s2 H2 ex pn=>⟨cQ,(aF jL (aa 0) (dB (ae (aa 1) ag)))⟩))))))
  (au (aA (aa 1))))),?_⟩
 rfl';refine⟨Zc _,λp hp=>⟨by decide,λr bQ=>⟨by lia,by lia,?_⟩⟩⟩;have u1:=ax (o:=.lst []) hp;have u2:=ax (o:=.lst [.ref p]) bQ;rw[Zq];refine kQ (Wf H n) ⟨r,_,_,rfl,u1.trans u2,az,⟨⟨p,rfl,u2 _ _ az⟩,trivial⟩⟩ ?_ ?_
 .rintro i σ H1 hi ⟨l,ys,e,rfl,s1,hl,hy⟩;have yl:=hy.len;rw[qM] at yl;have p2:2 ^ i<=2 ^ 7:=acs (by decide) (by lia);rfl';refine⟨⟨_,ah.of hl⟩,bS fA (YE (by lia:ys.length<=128) (by decide)) (fB (R:=j9) (R':=j9) (f:=λs=>s++[((i:Nat):Int)]) (λ_ _ _ _ s' h=>h.same s') (λ_ _ _ _ s' h=>h.same s') hy (bs:=[]) trivial (λH' s'=>ah.of (s' _ _ hl)) (λx s _ H2 s2 r Q h=>?_) (λx s hs H2 s2 r Q h=>?_) λH2 zs s2 hz=>?_)⟩
  .rfl';exact h
  .obtain⟨a,rfl,ha⟩:=r;have sl:=qN i s hs;rfl';refine⟨by decide,λb hb=>⟨_,(ax hb) _ _ ha,_,az,YE (by rw[Yw];show s.length+1<=20;lia) (by decide),λc hc=>h _ _ ((ax hb).trans (ax hc)) ⟨c,rfl,?_⟩⟩⟩;rw[az,Zd,show (0:Int)+(i:Int)=((i:Nat):Int) by lia];rfl
  .rw[YY] at hz;intro d hd;have ud:=ax (o:=.lst zs) hd;have zl:=hz.len;rw[Yw,qM] at zl;refine⟨d,rfl,ys,(s2.trans ud) _ _ hl,zs,az,YE (by lia:ys.length+zs.length<=256) (by decide),λc hc=>?_⟩;have uc:=ax (o:=.lst (ys++zs)) hc;exact⟨c,_,_,rfl,s1.trans (s2.trans (ud.trans uc)),az,(hy.imp λ_ _ r=>r.same (s2.trans (ud.trans uc))).app (hz.imp λ_ _ r=>r.same (ud.trans uc))⟩
 .rintro σ H1 ⟨l,ys,e,rfl,s1,hl,hy⟩;rfl';exact q l ys H1 s1 hl hy
theorem Wh(hx:ah K H x xs)(hP:eI H xs ps)(hy:ah K H y ys)(hM:ay (dI H) ys ms)(ao:cS ps)(hn:ps.length<=41)(hm:ms.length<=64)(q:∀ f H',ak H H'->ke H' f (fY ps ms)->Q f H'):IC K [.ref x,.ref y] H Q E0:=by
 refine⟨x,y,xs,ys,ps,ms,rfl,hx,hP,hy,hM,ao,by lia,by lia,λt ht en H' s'=>q _ _ s' ?_,λa7 l zs ss H' s' fl hl hz jd fN=>q _ _ s' ?_⟩
 .have e:fY ps ms=none:=if_pos (ZE.mpr ⟨t,ZK.mpr (by lia),by rw[en];rfl⟩);rw[e];rfl
 .have e0:¬ ((Y1 (ps.length+1)).any λt=>(aS (bB ms) (aB ps) t).isNone)=true:=λz=>by obtain⟨t,ht,h⟩:=ZE.mp z;exact a7 t (by have:=ZK.mp ht;lia) (ac7.mp h)
  have e:fY ps ms=some ss:=by
   unfold fY;rw[if_neg e0]
   congr 1
   refine aa2 λt=>?_;by_cases ht:t<ps.length+1
   .have es:ss[t]?=some (bc ss t):=by unfold bc;rw[Yv,Yx (by lia)];rfl
    rw[YF,Zb ht,es];simp only[Option.map_some];rw[fN t (by lia)];rfl
   .rw[ZF (by rw[Yw,YQ];lia),ZF (by lia)]
  rw[e];exact⟨l,zs,rfl,hl,hz⟩
theorem Wi(h : -d<=u):∀ {n:Nat} {ys:List V},ay (fF H) ys (dw u d [] n)->eI H ys (Zp n (-d,u)):=by
 intro n ys hy;have e:dw u d [] n=(Y1 n).map λ_=>some (some (-d),some u):=by
  unfold dw;refine aan λk _=>?_;show dH (none,none) [(some (-d),some u)]=some (some (-d),some u);unfold dH;rw[if_neg]
  .rfl
  .show ¬ (aO (some (-d)) (some u))=true;simp[aO];lia
 rw[e] at hy;have r:Zp n ((-d,u):P2)=(Y1 n).map λ_=>(-d,u):=by
  refine aa2 λk=>?_;rw[Z0,YF];by_cases hk:k<n
  .rw[if_pos hk,Zb hk];rfl
  .rw[if_neg hk,ZF (by rw[YQ];lia)];rfl
 rw[r];exact ay.yu ((ay.bind hy).imp λ_ _ z=>z)
inductive Wj(K:Yu)(B:YN)(vs:List V)(H:Hp)(Q:VK)(aQ:XK):Prop
 | mk(x p:YN)(e t u d m:Int)(tb:Tb)(_:vs=[.ref x])(_:cb B H x e t u d m p tb)(_:(1<=e/\e<=7))(_:(1<=t/\t<=12))(_:0<=u)(_:0<=d)(_:bL e t tb)(_:tb.length<64)(_:∀ l zs H',ak H H'->H' l=some (.lst zs)->ay (λv ss=>ke H' v (some ss)) zs (((cw e.toNat).filter λs=>decide ((s.length:Int)=m)).filterMap λs=>fY (Zp (t-1).toNat (-d,u)) (b8 tb s))->Q (.ref l) H')
theorem Wk(T:Tx K mg):Ok P w base 5 T.sm (Wj K T.aL):=by
 refine aY rA ?_;rintro _ _ _ s H _ Q _ hr ⟨x,p,e,t,u,d,m,tb,rfl,hb,he,ht,hu,hd,ao,bH,q⟩;refine⟨_,(ar (aI 1 rA.nd (aE (Io T) hr (ae (aa 0) (ae (dB ag) ag))))
  (ar (jU (i:=2) (bC.mk (fr:=[0]) (ys:=["board"]) rfl (by decide +kernel) rfl (by decide +kernel) rfl rfl (.cons rfl .nil) (.cons rfl rfl rfl rfl .nil) (by decide) rfl) rfl rA.nd rfl rfl (cC (aE (Wg T) hr (ae (eN rfl (aa 0) rfl) ag))) (λC s2 H2 ex pn=>⟨(gN (b9 (a9 (Nq (K:=K) rfl) (by rfl) T.cp cf (ae (aa 0) ag)) (eN (K:=K) rfl (aa 1) rfl))),(aa 0)⟩))
  (ar (jU (i:=3) (bC.mk (fr:=[1,0]) (ys:=["steps","board"]) rfl (by decide +kernel) rfl (by decide +kernel) rfl rfl (.cons rfl (.cons rfl .nil)) (.cons rfl rfl rfl rfl (.cons rfl rfl rfl rfl .nil)) (by decide) rfl) rfl rA.nd rfl rfl (cC (aa 2)) (λC s2 H2 ex pn=>⟨cQ,(aE (ID T) hr (ae (aa 1) (ae (aE (Iy T) hr (ae (aa 2) (ae (aa 0) ag))) ag)))⟩))
  (au (aA (cN (bC.mk (fr:=[]) (ys:=[]) rfl (by decide +kernel) rfl (by decide +kernel) rfl rfl .nil .nil (by decide) rfl) rfl (cC (aa 3)) (λC s2 H2 ex pn=>⟨(gN (fc (aa 0))),(aa 0)⟩))))))),?_⟩
 obtain⟨⟨dx,hx⟩,kvs,hk,hT⟩:=id hb;rfl';refine⟨Zc _,λr bQ=>?_⟩;have u1:=ax (o:=.lst []) bQ;refine⟨x,p,r,e,t,u,d,m,kvs,[],[],rfl,⟨⟨dx,u1 _ _ hx⟩,u1 _ _ hk⟩,ht.1,ht.2,ah.of az,trivial,by decide,λz=>absurd (λ_ h=>(nomatch h)) z,λ_ st ys H1 s1 _ cc hy=>?_⟩;have S1:=u1.trans s1;have Jo:=Wi (by lia) hy;have rl:(Zp (t-1).toNat ((-d,u):P2)).length<=11:=by rw[aar];lia
 have Jp:cS (Zp (t-1).toNat ((-d,u):P2)):=λq hq=>by rw[(ae3.mp hq).2];show -d<=u;lia
 generalize Zp (t-1).toNat ((-d,u):P2)=ps at Jo rl Jp q;refine⟨_,_,_,S1 _ _ hx,T.bI,T.pG,_,rfl,?_⟩;refine⟨e.toNat,by rw[aao (by lia)],by lia,λa Wl H2 s2 ha hc=>?_⟩;have S2:=S1.trans s2;have al:=hc.len;rw[qM] at al;have p2:2 ^ e.toNat<=2 ^ 7:=acs (by decide) (by lia);refine⟨a,rfl,⟨_,ah.of ha⟩,bS fA (YE (by lia:Wl.length<=128) (by decide)) (yI (R:=j9) (p:=λs=>decide ((s.length:Int)=m)) (λ_ _ _ _ s h=>h.same s) hc (λH' s'=>ah.of (s' _ _ ha)) (λv s _ H3 s3 r Q h=>?_) (λv H3 s3 Q h=>?_) λH3 cs s3 hz=>?_)⟩
 .obtain⟨l,rfl,hl⟩:=r;rfl';refine⟨_,dO (ah.of hl),_,_,_,(S2.trans s3) _ _ hx,T.bI,T.pH,_,rfl,?_⟩;rw[Yw];rfl';exact vk (Q:=λk=>Q k H3) (h _ (ak.refl _))
 .rfl';exact h
 rw[YY];intro c Wm;have u3:=ax (o:=.lst cs) Wm;have S3:=S2.trans (s3.trans u3);have zl:=hz.len;have fl:=Ze (λs:List Int=>decide ((s.length:Int)=m)) (cw e.toNat);rw[qM] at fl;have cY:=hz.imp λ_ _ r=>r.same u3;have c3:upd H3 c (.lst cs) c=some (.lst cs):=az;generalize upd H3 c (.lst cs)=H4 at u3 S3 cY c3 ⊢;refine⟨c,rfl,⟨_,ah.of c3⟩,bS fA (YE (by lia:cs.length<=128) (by decide)) (fB (R:=j9) (R':=ke) (f:=λs=>fY ps (b8 tb s)) (λ_ _ _ _ s h=>h.same s) (λ_ _ _ _ s h=>h.same s) cY (bs:=[]) trivial (λH' s'=>ah.of (s' _ _ c3)) (λv s _ H5 s5 r Q h=>?_) (λv s hs H5 s5 r Q h=>?_) λH5 fs s5 hf=>?_)⟩
 .rfl';exact h
 .obtain⟨l,rfl,hl⟩:=r;have sl:=qN _ _ (Y8.mp hs).1;have S5:=S3.trans s5;rfl';refine⟨x,p,l,e,t,u,d,m,tb,s,rfl,hb.same S5,ao.1,bH,λr hr=>(ao.2 r hr).2.1,ah.of hl,by lia,λl2 Yo H6 s6 bp hM=>?_⟩;refine Wh (ah.of ((s2.trans (s3.trans u3)).trans (s5.trans s6) _ _ cc)) (Jo.same ((s2.trans (s3.trans u3)).trans (s5.trans s6))) (ah.of bp) hM Jp (by lia) ?_ λf H7 s7 hf=>h H7 f (s6.trans s7) hf;rw[Yw];exact YE (Ze _ _) (by rw[mR];lia)
 rw[YY] at hf;intro g hg;have ug:=ax (o:=.lst fs) hg;have g6:upd H5 g (.lst fs) g=some (.lst fs):=az;have Jq:=hf.imp λ_ _ r=>r.same ug;have S6:=S3.trans (s5.trans ug);have Wn:=hf.len;rw[Yw] at Wn;generalize upd H5 g (.lst fs)=H6 at S6 g6 Jq ⊢;refine⟨g,rfl,⟨_,ah.of g6⟩,bS fA (YE (by lia:fs.length<=128) (by decide)) (yI (R:=ke) (p:=λo=>o.isSome) (λ_ _ _ _ s h=>h.same s) Jq (λH' s'=>ah.of (s' _ _ g6)) (λv o _ H7 s7 r Q h=>?_) (λv H7 s7 Q h=>?_) λH7 ws s7 hw=>?_)⟩
 .cases o with
  | none =>
   obtain rfl:v = .non:=r;rfl';exact h _ (ak.refl _)
  | some ss =>
   obtain⟨l,zs,rfl,_⟩:=r;rfl';exact h _ (ak.refl _)
 .rfl';exact h
 rw[YY];intro l hl;have ul:=ax (o:=.lst ws) hl;refine q l ws _ (S6.trans (s7.trans ul)) az ?_;rw[<- map_some];exact yK (hw.imp λ_ _ r=>r.same ul)
inductive Wo(K:Yu)(B C:YN)(vs:List V)(H:Hp)(Q:VK)(E:XK):Prop
 | mk(x p:YN)(e t u d m:Int)(tb:Tb)(j:Int)(_:vs=[.ref x,.int j])(_:cb B H x e t u d m p tb)(_:(1<=e/\e<=7))(_:(1<=t/\t<=12))(_:0<=u)(_:0<=d)(_:bL e t tb)(_:tb.length<64)(_:(¬ (0<=j/\j<t)->E (.ref C) none H))(_:∀ k:Nat,j=(k:Int)->(k:Int)<t->∀ l ys H',ak H H'->H l=none->H' l=some (.lst ys)->aP H' ys (lg ((m5 e t u d m tb).map λss=>bc ss k))->Q (.ref l) H')
theorem Bu(T:Tx K mg):Ok P w base 6 T.lJ (Wo K T.aL T.gd):=by
 refine lF Ho ?_;rintro _ _ _ s H _ Q _ hr ⟨x,p,e,t,u,d,m,tb,j,rfl,hb,he,ht,hu,hd,ao,bH,q0,q⟩;refine⟨_,(ar (aJ (cU (cy (i5 (aa 0) T.bI T.sQ (sV T) (hr.mono (by decide)) T.gU.b .nil bX (ae (aa 1) ag)))) (au (jO jP rfl T.AY T.vI rfl (ae bo ag))) aK)
  (au (aA (aE (TJ T) hr (ae (cN (bC.mk (fr:=[1]) (ys:=["turn"]) rfl (by decide +kernel) rfl (by decide +kernel) rfl rfl (.cons rfl .nil) (.cons rfl rfl rfl rfl .nil) (by decide) rfl) rfl (cC (aE (Wk T) hr (ae (aa 0) ag))) (λC s2 H2 ex pn=>⟨cQ,(cz (K:=K) (aa 0) (aa 1))⟩)) ag))))),?_⟩
 obtain⟨⟨dx,hx⟩,kvs,hk,hT⟩:=id hb;rfl';refine⟨_,_,hx,rfl,x,p,e,t,u,d,m,j,kvs,rfl,⟨⟨dx,hx⟩,hk⟩,?_⟩;by_cases hj:0<=j/\j<t
 rotate_left
 .rw[decide_eq_false hj];rfl';exact⟨by decide,q0 hj⟩
 obtain⟨k,rfl⟩:∃ k:Nat,j=(k:Int):=⟨j.toNat,by lia⟩
 have Jr:=hj.2;have q:=q k rfl Jr;rw[decide_eq_true hj];rfl';refine⟨x,p,e,t,u,d,m,tb,rfl,hb,he,ht,hu,hd,ao,bH,λl zs H1 s1 hl hz=>?_⟩;have hz:ay (λv ss=>ke H1 v (some ss)) zs (m5 e t u d m tb):=hz;have zl:=hz.len;have tl:=FG (t:=t) (u:=u) (d:=d) (m:=m) (tb:=tb) he.1 he.2;rfl';refine⟨⟨_,ah.of hl⟩,bS fA (YE (by lia:zs.length<=64) (by decide)) (fB (R:=λ_ v (ss:List S2)=>ke H1 v (some ss)) (R':=lq) (f:=λss=>bc ss k) (λ_ _ _ _ _ h=>h) (λ_ _ _ _ s h=>aG.same h s) hz (bs:=[]) trivial (λH' s'=>ah.of (s' _ _ hl)) (λv s _ H5 s5 r Q h=>?_) (λv ss hs H5 s5 r Q h=>?_) λH5 fs s5 hf=>?_)⟩
 .rfl';exact h
 .obtain⟨l2,kD,rfl,bp,nK⟩:=r;have rl:=Qe ht.1 hs;have es:ss[k]?=some (bc ss k):=by unfold bc;rw[Yv,Yx (by lia)];rfl
  obtain⟨w,hw,rw_⟩:=nK.at es;rfl';exact bq (ah.of (s5 _ _ bp)) (cF hw) (h _ _ (ak.refl _) (aG.same rw_ s5))
 rw[YY] at hf;intro g hg;have ug:=ax (o:=.lst fs) hg;have fl:=hf.len;rw[Yw] at fl;exact⟨g,fs,_,rfl,ah.of az,by lia,ay.FD (hf.imp λ_ _ r=>aG.same r ug),λl3 ys H6 s6 f6 tj Wq=>q l3 ys H6 (s1.trans (s5.trans (ug.trans s6))) ((s1.trans (s5.trans ug)).free f6) tj Wq⟩
noncomputable def fO(ss:List S2)(n:Int):Bool:=(ss.map λs=>hs s n).any id
noncomputable def sgn(b:Bool):Str:=if b=true then YG "#" else YG "."
inductive Wr(K:Yu)(vs:List V)(H:Hp)(Q:VK)(aQ:XK):Prop
 | mk(l:YN)(ys:List V)(ss:List S2)(n:Int)(_:vs=[.ref l,.int n])(_:H l=some (.lst ys))(_:aP H ys ss)(_:ss.length<=64)(_:∀ H',ak H H'->Q (.str (sgn (fO ss n))) H')
theorem Ws(T:Tx K mg):Ok P w base 3 T.so (Wr K):=by
 refine aY Hq ?_;rintro _ _ _ s H _ Q _ hr ⟨l,ys,ss,n,rfl,hl,hz,bH,q⟩;refine⟨_,(au (aA (jG (cy (a9 (xT rfl) (by rfl) T.AU xg (ae (cN (bC.mk (fr:=[1]) (ys:=["number"]) rfl (by decide +kernel) rfl (by decide +kernel) rfl rfl (.cons rfl .nil) (.cons rfl rfl rfl rfl .nil) (by decide) rfl) rfl (cC (aa 0)) (λC s2 H2 ex pn=>⟨cQ,(aE (Ts T) hr (ae (aa 0) (ae (aa 1) ag)))⟩)) ag))) bo bo))),?_⟩;have zl:ys.length<=64:=by rw[(gA.mp hz).len];exact bH
 rfl';refine⟨⟨_,ah.of hl⟩,bS fA (YE zl (by decide)) (k8 (R:=λv (s:S2)=>aG H v s.1 s.2) (p:=λ_=>true) (f:=λs=>V.bl (hs s n)) (ys:=[]) (ah.of hl) (gA.mp hz) (λv s _ r Q h=>?_) (λv s _ _ r Q h=>?_) (λl2 bp=>?_))⟩
 .rfl';exact h
 .rfl';exact⟨v,s.1,s.2,n,rfl,r,h⟩
 .have ef:([]:List V)++(ss.filter λ_=>true).map (λs=>V.bl (hs s n))=(ss.map λs=>hs s n).map V.bl:=by rw[YY,Z9.mpr λ_ _=>rfl,ZG];rfl
  rw[ef];refine⟨l2,rfl,_,ah.of az,?_⟩;have q:=q _ (ax (o:=.lst ((ss.map λs=>hs s n).map V.bl)) bp);unfold sgn fO at q;refine aT (λh=>?_) λh=>?_
  .rw[if_pos h] at q;exact q
  .rw[if_neg h] at q;exact q
noncomputable def iQ(t:Int)(ss:List S2)(lo:Int)(n:Nat):Str:=(Txt.rjust (YG (toString t)) 3++YG " ")++Txt.join (YG "") ((Y1 n).map λi=>sgn (fO ss (lo+(i:Nat))))
theorem Js(b:Bool):(sgn b).length=1:=by cases b<;>decide
theorem Bv:∀ {zs:List V} {bs:List Str},ay (λv (b:Str)=>v=V.str b) zs bs->zs=bs.map V.str
 | [],[],_=>rfl
 | _::_,_::_,h=>by rw[h.1,Bv h.2];rfl
theorem Jt{t:Int}(h0:0<=t)(h1:t<12):t.natAbs.log2<1920/\(Txt.rjust (YG (toString t)) 3).length=3:=by rcases (by lia:t=0∨t=1∨t=2∨t=3∨t=4∨t=5∨t=6∨t=7∨t=8∨t=9∨t=10∨t=11) with rfl|rfl|rfl|rfl|rfl|rfl|rfl|rfl|rfl|rfl|rfl|rfl<;>exact⟨by decide +kernel,by decide +kernel⟩
inductive Ju(K:Yu)(vs:List V)(H:Hp)(Q:VK)(aQ:XK):Prop
 | mk(l:YN)(ys:List V)(ss:List S2)(t lo hi:Int)(_:vs=[.int t,.ref l,.int lo,.int hi])(_:0<=t)(_:t<12)(_:H l=some (.lst ys))(_:aP H ys ss)(_:ss.length<=64)(_:hi-lo<=100)(_:∀ H',ak H H'->Q (.str (iQ t ss lo (hi+1-lo).toNat)) H')
theorem Wt(T:Tx K mg):Ok P w base 4 T.sq (Ju K):=by
 refine aY AO ?_;rintro _ A _ s H _ Q _ hr ⟨l,ys,ss,t,lo,hi,rfl,t0,t1,hl,hz,bH,hn,q⟩;refine⟨_,(ar (jU (i:=4) (bC.mk (fr:=[1]) (ys:=["some"]) rfl (by decide +kernel) rfl (by decide +kernel) rfl rfl (.cons rfl .nil) (.cons rfl rfl rfl rfl .nil) (by decide) rfl) rfl AO.nd rfl rfl (Ge rfl T.dt (ae (aa 2) (ae (aF bG (aa 3) af) ag))) (λC s2 H2 ex pn=>⟨cQ,(aE (Ws T) hr (ae (aa 1) (ae (aa 0) ag)))⟩))
  (au (aA (aF kL (aF kL (ja ad0 PySem.F.slot_str_rjust PySem.F.type_str_rjust Rq (n4 wR (by rfl) T.vF uf (ae (aa 0) ag)) (ae af ag)) bo) (ja ad0 PySem.F.slot_str_join PySem.F.type_str_join Rr bo (ae (aa 4) ag)))))),?_⟩
 rfl';refine bS ir (by rw[Yw,YQ];exact YE (by lia:_<=101) (by decide)) (fB (R:=λ_ x (k:Nat)=>x=V.int (lo+k)) (R':=λ_ v (b:Str)=>v=V.str b) (f:=λ(k:Nat)=>sgn (fO ss (lo+(k:Nat)))) (λ_ _ _ _ _ h=>h) (λ_ _ _ _ _ h=>h) (ay.fP _) (bs:=[]) trivial (λ_ _=>trivial) (λx k _ H2 s2 r Q h=>?_) (λx k _ H2 s2 r Q h=>?_) λH2 zs s2 nK=>?_)
 .rfl';exact h
 .subst r;rfl';exact⟨l,ys,ss,_,rfl,s2 _ _ hl,hz.same s2,bH,λH' s'=>h _ _ s' rfl⟩
 .intro r hr;obtain rfl:=Bv nK;obtain⟨l0,l1⟩:=Jt t0 t1;have ones:∀ s∈[]++(Y1 (hi+1-lo).toNat).map λ(k:Nat)=>sgn (fO ss (lo+(k:Nat))),s.length=1:=λs hs=>by rw[YY] at hs;obtain⟨k,_,rfl⟩:=YO.mp hs;exact Js _
  have ln:([]++(Y1 (hi+1-lo).toNat).map λ(k:Nat)=>sgn (fO ss (lo+(k:Nat)))).length<=101:=by simp;lia
  have sl:(101:Nat)+4<=Y0:=by decide
  have l4:(Txt.rjust (YG (toString t)) 3++YG " ").length<=4:=abW (A:=3) (B:=1) (by lia) (by decide);refine⟨l0,rfl,_,rfl,by decide,_,rfl,_,rfl,by rw[l1];exact YE (by decide:_<=105) sl,rfl,r,rfl,_,ah.of az,ones,by lia,_,rfl,_,rfl,?_,q _ (s2.trans (ax hr))⟩;rw[aey _ ones];lia
theorem Bw(he:1<=e/\e<=7):(iD e t u d m tb k).length<=64:=YE (OC _) (by rw[Yw];exact abL (FG he.1 he.2))
noncomputable def c7(e t u d m:Int)(tb:Tb)(lo hi:Int):List Str:=(Y1 t.toNat).map λ(k:Nat)=>iQ (k:Nat) (iD e t u d m tb k) lo (hi+1-lo).toNat
inductive Wu(K:Yu)(B C:YN)(vs:List V)(H:Hp)(Q:VK)(E:XK):Prop
 | mk(x p:YN)(e t u d m:Int)(tb:Tb)(lo hi:Int)(_:vs=[.ref x,.int lo,.int hi])(_:cb B H x e t u d m p tb)(_:(1<=e/\e<=7))(_:(1<=t/\t<=12))(_:0<=u)(_:0<=d)(_:bL e t tb)(_:tb.length<64)(_:hi-lo<=100)(_:(hi<lo->E (.ref C) none H))(_:(lo<=hi->∀ l H',ak H H'->H l=none->H' l=some (.lst ((c7 e t u d m tb lo hi).map V.str))->Q (.ref l) H'))
theorem vZ(T:Tx K mg):Ok P w base 7 T.lK (Wu K T.aL T.cX):=by
 refine lF Hr ?_;rintro _ _ _ _ _ _ Q _ hr ⟨x,p,e,t,u,d,m,tb,lo,hi,rfl,hb,he,ht,hu,hd,ao,bH,hn,q0,q⟩;refine⟨_,(ar (aJ (pd (aa 1) (aa 2)) (au (jO jP rfl T.HU T.sT rfl (ae bo ag))) aK)
  (au (aA (cN (bC.mk (fr:=[1,2,0]) (ys:=["low","high","board"]) rfl (by decide +kernel) rfl (by decide +kernel) rfl rfl (.cons rfl (.cons rfl (.cons rfl .nil))) (.cons rfl rfl rfl rfl (.cons rfl rfl rfl rfl (.cons rfl rfl rfl rfl .nil))) (by decide) rfl) rfl (ft rfl T.dt (ae (eN rfl (aa 0) rfl) ag)) (λC s2 H2 ex pn=>⟨cQ,(aE (Wt T) hr (ae (aa 0) (ae (aE (Bu T) hr (ae (aa 3) (ae (aa 0) ag))) (ae (aa 1) (ae (aa 2) ag)))))⟩))))),?_⟩
 obtain⟨⟨dx,hx⟩,kvs,hk,hT⟩:=id hb;rfl';refine aT (λh0=>?_) λh0=>?_
 .rfl';exact⟨by decide,q0 h0⟩
 refine⟨_,_,_,hx,T.bI,T.nF,_,rfl,t,rfl,by lia,by lia,bS ir (by rw[Yw,YQ];exact YE (by lia:_<=12) (by decide)) (fB (R:=λ_ x (k:Nat)=>x=V.int ((0:Int)+k)) (R':=λ_ v (b:Str)=>v=V.str b) (f:=λ(k:Nat)=>iQ (k:Nat) (iD e t u d m tb k) lo (hi+1-lo).toNat) (λ_ _ _ _ _ h=>h) (λ_ _ _ _ _ h=>h) (ay.fP _) (bs:=[]) trivial (λ_ _=>trivial) (λx k _ H2 s2 r Q h=>?_) (λx k Wv H2 s2 r Q h=>?_) λH2 zs s2 nK=>?_)⟩
 .rfl';exact h
 .subst r;have Jr:=ZK.mp Wv;rfl';refine⟨_,p,e,t,u,d,m,tb,0+k,rfl,hb.same s2,he,ht,hu,hd,ao,bH,λz=>absurd ⟨by lia,by lia⟩ z,λj e1 h1 l ys H3 s3 _ hl hz=>?_⟩;obtain rfl:k=j:=by lia
  rfl';rw[abP];exact⟨l,ys,_,_,lo,hi,rfl,by lia,by lia,hl,hz,Bw he,by lia,λH4 s4=>h _ _ (s3.trans s4) rfl⟩
 .intro r hr;obtain rfl:=Bv nK;exact q (by lia) r _ (s2.trans (ax hr)) (s2.free hr) az
inductive Jv(H:Hp)(a x c:YN)(v:V)(k:Int)(i:Nat)(σ:St)(H1:Hp):Prop
 | mk(l:YN)(ns:List Int)(e1:Option V)(_:σ=[some (.ref a),some (.ref x),some v,some (.ref c),some (.int k),some (.ref l),e1])(_:ak H H1)(_:H1 l=some (.lst (ns.map V.int)))(_:1<=ns.length)(_:ns.length<=1+2 * i)
inductive Ww(K:Yu)(B:YN)(vs:List V)(H:Hp)(Q:VK)(aQ:XK):Prop
 | mk(a x p c w:YN)(v:V)(ns cs:List Int)(e t u d m:Int)(tb:Tb)(_:vs=[.ref a,.ref x,v,.ref c])(_:ah K H a (ns.map V.int))(_:gx ns)(_:cb B H x e t u d m p tb)(_:fK H v w e t u d m tb)(_:(1<=e/\e<=7))(_:(1<=t/\t<=12))(_:0<=u)(_:0<=d)(_:bL e t tb)(_:tb.length<64)(_:ah K H c (cs.map V.int))(_:cs.length=t.toNat)(_:∀ n H',ak H H'->Q (.int n) H')
theorem Wx(T:Tx K mg):Ok P w base 7 T.sL (Ww K T.aL):=by
 refine aY pC ?_;rintro _ _ _ _ H _ Q _ hr ⟨a,x,p,c,w,v,ns,cs,e,t,u,d,m,tb,rfl,hS,hn,hb,⟨r,rfl,hw,hwt⟩,he,ht,hu,hd,ao,bH,hc,aX,q⟩;refine⟨_,(ar (aI 4 pC.nd (aE (cH T) hr (ae (aa 0) (ae af (ae af (ae (aw (aa 2) af) ag))))))
  (ar (aI 5 pC.nd (dB (ae (aw (aa 3) (aa 4)) ag)))
  (ar (cW Zk rfl (cC (aE (Bu T) hr (ae (aa 1) (ae (aa 4) ag)))) (ck 6 pC.nd) (au (aI 5 pC.nd (aF jL (aa 5) (cN (bC.mk (fr:=[]) (ys:=[]) rfl (by decide +kernel) rfl (by decide +kernel) rfl rfl .nil .nil (by decide) rfl) rfl (tR (aa 6)) (λC s2 H2 ex pn=>⟨(gN (fc (aa 0))),(aa 0)⟩))))))
  (au (aA (aF dn (aw (aa 5) (aF dn (aF dn (a9 cK (by rfl) T.cp cf (ae (aa 5) ag)) af) (aE (cH T) hr (ae (aa 0) (ae af (ae af (ae (a9 cK (by rfl) T.cp cf (ae (aa 5) ag)) ag))))))) (aE (cH T) hr (ae (aa 0) (ae af (ae af (ae af ag))))))))))),?_⟩
 refine aH (λσ H1=>∃ k:Int,σ=[some (.ref a),some (.ref x),some (.ref r),some (.ref c),some (.int k),none,none]/\0<=k/\k<t/\H1=H) (λN hN=>?_) ?_
 .rfl';exact aq (aj.of hw) rfl ⟨a,ns,_,_,_,rfl,hS,hn,⟨by decide,by decide⟩,by decide,by lia,λk k0 k1=>hN _ _ ⟨k,rfl,k0,k1,rfl⟩⟩
 rintro _ yR σ H1 ⟨k,rfl,k0,k1,rfl⟩;subst yR;refine aH (λσ H2=>∃ (l:YN) (n:Int),σ=[some (.ref a),some (.ref x),some (.ref r),some (.ref c),some (.int k),some (.ref l),none]/\ak H1 H2/\H2 l=some (.lst [.int n])) (λN hN=>?_) ?_
 .rfl';exact bq hc (int_at k0 (by lia)) ⟨by decide,λp hp=>hN _ _ ⟨p,_,rfl,ax hp,az⟩⟩
 rintro _ yR σ H2 ⟨l,n,rfl,s2,hl⟩;subst yR;refine aH (λσ H3=>∃ i,Jv H1 a x c (.ref r) k i σ H3/\i<=64) (λN hN=>?_) ?_
 .rfl';refine⟨x,p,e,t,u,d,m,tb,k,rfl,hb.same s2,he,ht,hu,hd,ao,bH,λz=>absurd ⟨k0,k1⟩ z,λj e1 h1 lp ys H3 s3 _ Jw hz=>?_⟩;have zl:ys.length<=64:=by rw[(gA.mp hz).len];exact Bw he
  refine⟨lp,rfl,⟨_,ah.of Jw⟩,kR (Jv H3 a x c (.ref r) k) ⟨l,[n],none,rfl,ak.refl _,s3 _ _ hl,by simp,by simp⟩ (λi σ H4 _ ⟨_,_,_,_,s4,_,_,_⟩=>ah.of (s4 _ _ Jw)) ?_ λσ H4 ⟨l4,Jx,e4,e5,s4,h4,h5,h6⟩=>hN _ _ ⟨_,⟨l4,Jx,e4,e5,s2.trans (s3.trans s4),h4,h5,h6⟩,zl⟩⟩;rintro i xv σ H4 hx ⟨l4,Jx,e1,rfl,s4,nI,n1,n2⟩;obtain⟨s0,Bx,pa,rfl,hpa⟩:=hz.get hx;rfl';refine⟨⟨_,aj.of (s4 _ _ hpa)⟩,bS (xs:=[ev s0.1,ev s0.2]) xD br (mS (R:=λv (q:En)=>v=ev q) (R':=λv (n:Int)=>v=V.int n) (p:=λq=>q.isSome) (f:=λq=>q.getD 0) (as:=[s0.1,s0.2]) (aj.of (s4 _ _ hpa)) ⟨rfl,rfl,trivial⟩ (λv q r Q h=>?_) (λv q hp r Q h=>?_) λzs tf=>?_)⟩
  .subst r;rfl';cases q with
   | none=>exact h
   | some y=>exact h
  .subst r;rfl';cases q with
   | none=>cases hp
   | some y=>exact h _ rfl
  .intro l5 nJ;rw[YY,ay.ints tf];have s5:=ax (o:=.lst ((([s0.1,s0.2].filter λq=>q.isSome).map λq=>q.getD 0).map V.int)) nJ;have n5:(([s0.1,s0.2].filter λq=>q.isSome).map λq=>q.getD 0).length<=2:=by rw[Yw];exact Ze _ _
   have Wy:i<ys.length:=(YC.mp hx).1;refine⟨l5,rfl,_,s5 _ _ nI,_,az,YE (by rw[Yw,Yw];lia:_<=140) (by decide),λp6 Wz=>⟨p6,_,_,rfl,s4.trans (s5.trans (ax Wz)),by rw[<- Zd];exact az,?_,?_⟩⟩
   .rw[YJ];lia
   .rw[YJ];lia
 rintro _ yR σ H3 ⟨i,⟨l3,Jy,e1,rfl,s3,cA,n1,n2⟩,Wy⟩;subst yR;rfl';have nl:(Jy.map V.int).length=Jy.length:=Yw _;refine⟨_,.inl ⟨_,ah.of cA,rfl⟩,_,.inl ⟨_,ah.of cA,rfl⟩,a,ns,_,_,_,rfl,s3.seq hS,hn,⟨by decide,by decide⟩,by decide,by lia,λj j0 j1=>?_⟩;rfl';refine bq (ah.of cA) (int_at (by lia) (by lia)) ⟨a,ns,_,_,_,rfl,s3.seq hS,hn,⟨by decide,by decide⟩,by decide,by decide,λj2 _ _=>?_⟩;rfl';exact q _ _ s3
theorem Jz:(dw u d ps n).length=n:=by unfold dw;rw[Yw,YQ]
theorem v3:(ff ps n).length=n:=by unfold ff;rw[Yw,YQ]
theorem WA{G H:Hp}{v:V}{sw gw:List W2}{tb:Tb}{m:Int}(hl:gw.length=sw.length+1)(ht:∀ r∈tb,r.1.2.toNat<gw.length)(A:Bm G H v sw gw tb m):∃ r,v = .ref r/\((∃ z,H r=some (.tup [.str "never",z])/\∀ L c,¬ pq sw gw tb m L c) ∨ ∃ k cs L,H r=some (.tup [.str "may",.ref k])/\H k=some (.lst (cs.map V.int))/\G k=none/\cs.length=gw.length/\pq sw gw tb m L (bM cs)):=by
 rcases A with ⟨r,k,j,rfl,h1,h2,h3⟩|⟨r,k,j,rfl,h1,h2,h3⟩|⟨r,k,p,pp,gs,rfl,h1,h2,h3,e1,e2,h4⟩|⟨r,k,cs,pp,gs,es,rfl,h1,h2,h3,h4,e1,e2,h5,h6,h7,h8⟩
 .exact⟨r,rfl,.inl ⟨_,h1,λL c z=>by obtain⟨s,e,_⟩:=z.2.1 j none h3;cases e⟩⟩
 .exact⟨r,rfl,.inl ⟨_,h1,λL c z=>by obtain⟨s,e,_⟩:=z.2.2.1 j none h3;cases e⟩⟩
 .refine⟨r,rfl,.inl ⟨_,h1,λL c z=>?_⟩⟩;subst e1 e2;rw[Yw] at hl ht;rw[Yw] at hl;exact absurd h4 (G8 z.1 (rj.mp z.2.1) (zu.mp z.2.2.1) (by lia) (rh.mpr z.2.2.2) (λr hr=>by have:=ht r hr;lia) p [] .nil (λx hx=>by cases hx))
 .subst e1 e2;exact⟨r,rfl,.inr ⟨k,cs,es,h1,h2,h3,h4,h7,rj.mpr h5,zu.mpr h6,rh.mp h8⟩⟩
theorem WB{u d t m:Int}{ps:List Pa}{tb:Tb}{gw:List W2}{L cs:List Int}(hl:cs.length=t.toNat)(F:pq (dw u d ps (t-1).toNat) gw tb m L (bM cs))(k:Nat)(hk:k+1<cs.length) : -d<=dm cs (k+1)-dm cs k/\dm cs (k+1)-dm cs k<=u:=by have h:=F.2.1 k (dH (none,none) ((some (-d),some u)::sel ps "step" (k:Int))) (by unfold dw;rw[YF,Zb (by lia)];rfl);have:=mU.mp h _ (.head _);exact⟨this.1 _ rfl,this.2 _ rfl⟩
theorem WC{m:Int}{tb:Tb}{sw gw:List W2}{L cs:List Int}(F:pq sw gw tb m L (bM cs))(zs:List Int)(hn:zs.Nodup)(hz:∀ i,i∈zs↔A9 tb cs i):(zs.length:Int)<=m:=by
 have:=rf (ys:=L) hn λi hi=>by obtain⟨r,hr,rfl,hb⟩:=(hz i).mp hi;refine Decidable.byContradiction λhc=>?_;have:=yw.mp (F.2.2.2 r hr hc);unfold Gz.hs at hb;exact absurd (this.symm.trans hb) (by decide)
 have:=F.1;lia
theorem JA(h:p∈ps):p.2.2∈sel ps p.1 p.2.1:=YO.mpr ⟨p,Y8.mpr ⟨h,by simp[iB]⟩,rfl⟩
theorem WD{G H:Hp}{v:V}{sw gw:List W2}{tb:Tb}{m:Int}(A:Bm G H v sw gw tb m)(cg:∀ L c,¬ pq sw gw tb m L c):∃ r k,v = .ref r/\H r=some (.tup [.str "never",k])/\pQ H k sw gw tb m [] 10:=by
 rcases A with ⟨r,k,j,rfl,h1,h2,h3⟩|⟨r,k,j,rfl,h1,h2,h3⟩|⟨r,k,p,pp,gs,rfl,h1,h2,h3,e1,e2,h4⟩|⟨r,k,cs,pp,gs,es,rfl,h1,h2,h3,h4,e1,e2,h5,h6,h7,h8⟩
 .exact⟨r,_,rfl,h1,.nQ k j rfl h2 h3⟩
 .exact⟨r,_,rfl,h1,.gol k j rfl h2 h3⟩
 .exact⟨r,_,rfl,h1,.pap p pp gs h2 (by lia) e1 e2 h4⟩
 .subst e1 e2;exact absurd ⟨h7,rj.mpr h5,zu.mpr h6,rh.mp h8⟩ (cg es (bM cs))
theorem WE{e t u d m:Int}{tb:Tb}{k:Nat}{n:Int}(he:1<=e)(rg:m<=e)(bW:bL e t tb)(hk:(k:Int)<t):(∃ L c,pq (dw u d [("at",(k:Int),(some n,some n))] (t-1).toNat) (ff [("at",(k:Int),(some n,some n))] t.toNat) tb m L c)↔oU e t u d m tb k n:=by
 constructor
 .rintro ⟨L,c,F⟩;have hc:d8 (Zp (t-1).toNat (-d,u)) c:=by
   refine rj.mp λj w hw=>?_;rw[ae8,Z0] at hw;by_cases hj:j<(t-1).toNat
   .rw[if_pos hj] at hw;cases hw;exact⟨_,rfl,mU.mp (F.2.1 j (dH (none,none) ((some (-d),some u)::sel _ "step" (j:Int))) (by unfold dw;rw[YF,Zb hj];rfl)) _ (.head _)⟩
   .rw[if_neg hj] at hw;cases hw
  have hn:c k=n:=by have:=mU.mp (F.2.2.1 k (dH (none,none) (sel _ "at" (k:Int))) (by unfold ff;rw[YF,Zb (by lia)];rfl)) (some n,some n) (JA (p:=("at",(k:Int),(some n,some n))) (.head _));have h1:=this.1 n rfl;have h2:=this.2 n rfl;lia
  rw[<- hn];exact SK he rg bW hc F.1 (rh.mpr F.2.2.2) k
 .rintro ⟨s,hs,hl,c,hc,hm,hx⟩;have sl:∀ (x:Str) (j:Int),∀ z∈sel [("at",(k:Int),(some n,some n))] x j,x = "at" /\ j=k/\z=(some n,some n):=λx j z hz=>by unfold sel at hz;obtain⟨p,hp,rfl⟩:=YO.mp hz;obtain⟨hp,hb⟩:=Y8.mp hp;rw[YZ.mp hp] at hb ⊢;unfold iB at hb;simp at hb;exact⟨hb.1.symm,hb.2.symm,rfl⟩
  refine⟨s,c,by lia,λj w hw=>?_,λj w hw=>?_,rh.mp hm⟩
  .have hj:j<(t-1).toNat:=by have:=(YC.mp hw).1;rw[Jz] at this;exact this
   unfold dw at hw;rw[YF,Zb hj] at hw;cases hw;refine mU.mpr λz hz=>?_;rcases YV.mp hz with rfl|hz
   .obtain⟨s,e,h⟩:=rj.mpr hc j (fI (-d,u)) (by rw[ae8,Z0,if_pos hj]);cases e;exact h
   .exact absurd (sl _ _ z hz).1 (by decide)
  .have hj:j<t.toNat:=by have:=(YC.mp hw).1;rw[v3] at this;exact this
   unfold ff at hw;rw[YF,Zb hj] at hw;cases hw;refine mU.mpr λz hz=>?_;obtain⟨_,e2,rfl⟩:=sl _ _ z hz;obtain rfl:j=k:=by lia
   exact⟨λa ha=>by cases ha;lia,λa ha=>by cases ha;lia⟩
noncomputable def g9(t:Int):Str:=Txt.rjust (YG (toString t)) 3++YG " "
noncomputable def jA(ss:List S2)(lo:Int)(n:Nat):Str:=Txt.join (YG "") ((Y1 n).map λi=>sgn (fO ss (lo+(i:Nat))))
theorem join_snoc:∀ (l:List Str) (c:Str),Txt.join (YG "") (l++[c])=Txt.join (YG "") l++c:=by
 have e0:YG "" = Str.empty:=by decide
 have go:∀ (l:List Str) (c:Str),agS (YG "") (l++[c])=agS (YG "") l++c:=by
  intro l c
  induction l with
  | nil=>exact (Str.empty_append c).symm
  | cons a l ih =>
   cases l with
   | nil =>
    show a++YG "" ++ c=a++c;rw[e0,afS]
   | cons b l =>
    show a++YG "" ++ agS _ (b::l++[c])=a++YG "" ++ agS _ (b::l)++c;rw[ih];exact (adO _ _ _).symm
 intro l c;show Builtin.Str.glued _ _=Builtin.Str.glued _ _++c;rw[StrLaws.glued_eq_join,StrLaws.glued_eq_join,go]
theorem JB(ss:List S2)(lo:Int)(n:Nat):jA ss lo (n+1)=jA ss lo n++sgn (fO ss (lo+(n:Nat))):=by unfold jA;rw[acN,Zd];exact join_snoc _ _
theorem WG(ss:List S2)(lo:Int)(n:Nat):(jA ss lo n).length=n:=by unfold jA;rw[aey _ λs hs=>by obtain⟨k,_,rfl⟩:=YO.mp hs;exact Js _,Yw,YQ]
theorem pre_of(h0:0<=t)(h1:t<12):(if t > 9 then YG " " ++ YG (toString t)++YG " " else YG "  " ++ YG (toString t)++YG " ")=g9 t/\(YG (toString t)).length<=2/\(g9 t).length=4:=by rcases (by lia:t=0∨t=1∨t=2∨t=3∨t=4∨t=5∨t=6∨t=7∨t=8∨t=9∨t=10∨t=11) with rfl|rfl|rfl|rfl|rfl|rfl|rfl|rfl|rfl|rfl|rfl|rfl<;>exact⟨by decide +kernel,by decide +kernel,by decide +kernel⟩
def WH(H:Hp)(l:YN)(ss:List S2)(t lo hi:Int)(i:Nat)(σ:St)(H1:Hp):Prop:=(∃ e1,σ=[some (.int t),some (.ref l),some (.int lo),some (.int hi),some (.str (g9 t++jA ss lo i)),e1])/\ak H H1
theorem WI(T:Tx K mg):Ok P w base 2 T.sM (Ju K):=by
 refine aY nA ?_;rintro _ A _ s H _ Q _ hr ⟨l,ys,ss,t,lo,hi,rfl,t0,t1,hl,hz,bH,hn,q⟩;refine⟨_,(ar (aI 4 nA.nd (aF kL (aF kL bo (n4 wR (by rfl) T.vF uf (ae (aa 0) ag))) bo))
  (ar (aJ (pd (aa 0) af) (au (aI 4 nA.nd (aF kL (aF kL bo (n4 wR (by rfl) T.vF uf (ae (aa 0) ag))) bo))) aK)
  (ar (cW Zk rfl (Ge rfl T.dt (ae (aa 2) (ae (aF bG (aa 3) af) ag))) (ck 5 nA.nd) (au (aJ (cy (a9 (xT rfl) (by rfl) T.AU xg (ae (cN (bC.mk (fr:=[5]) (ys:=["_law_number"]) rfl (by decide +kernel) rfl (by decide +kernel) rfl rfl (.cons rfl .nil) (.cons rfl rfl rfl rfl .nil) (by decide) rfl) rfl (cC (aa 1)) (λC s2 H2 ex pn=>⟨cQ,(aE (A2 T) hr (ae (aa 0) (ae (aa 1) ag)))⟩)) ag))) (au (aI 4 nA.nd (aF kL (aa 4) bo))) (au (aI 4 nA.nd (aF kL (aa 4) bo))))))
  (au (aA (aa 4)))))),?_⟩
 obtain⟨e1,e2,e3⟩:=pre_of t0 t1;obtain⟨l0,l1⟩:=Jt t0 t1;have sl:(101:Nat)+8<=Y0:=by decide
 have d1:(YG "  ").length=2:=by decide
 have d2:(YG " ").length=1:=by decide
 have k1:(YG "  " ++ YG (toString t)).length<=4:=abW (A:=2) (B:=2) (by lia) e2;have k2:(YG " " ++ YG (toString t)).length<=3:=abW (A:=1) (B:=2) (by lia) e2;refine aH (λσ H1=>σ=[some (.int t),some (.ref l),some (.int lo),some (.int hi),some (.str (YG "  " ++ YG (toString t)++YG " ")),none]/\H1=H) (λN hN=>?_) ?_
 .rfl';exact⟨l0,_,rfl,_,rfl,by lia,_,rfl,_,rfl,by lia,hN _ _ ⟨rfl,rfl⟩⟩
 rintro _ yR σ H1 ⟨rfl,rfl⟩;subst yR;refine aH (λσ H2=>σ=[some (.int t),some (.ref l),some (.int lo),some (.int hi),some (.str (g9 t)),none]/\H2=H1) (λN hN=>?_) ?_
 .rfl';refine aT (λh9=>?_) λh9=>?_
  .rw[if_pos h9] at e1;exact⟨l0,_,rfl,_,rfl,by lia,_,rfl,_,rfl,by lia,hN _ _ ⟨by rw[e1],rfl⟩⟩
  .rw[if_neg h9] at e1;exact hN _ _ ⟨by rw[e1],rfl⟩
 rintro _ yR σ H2 ⟨rfl,rfl⟩;subst yR;rfl';have z0:g9 t++jA ss lo 0=g9 t:=afS _;refine kQ (WH H2 l ss t lo hi) ⟨⟨none,by rw[z0]⟩,ak.refl _⟩ ?_ ?_
 rotate_left
 .rintro σ H3 ⟨⟨e1,rfl⟩,s3⟩;rfl';exact q _ s3
 rintro i σ H3 Yp ⟨⟨e1,rfl⟩,s3⟩;have zl:ys.length<=64:=by rw[(gA.mp hz).len];exact bH
 have pl:(g9 t++jA ss lo i).length<=4+i:=abW (by lia) (ad7 (WG _ _ _));have dg:(YG "#").length=1:=by decide
 have dd:(YG ".").length=1:=by decide
 rfl';refine⟨⟨_,ah.of (s3 _ _ hl)⟩,bS fA (YE zl (by decide)) (k8 (R:=λv (s:S2)=>aG H3 v s.1 s.2) (p:=λ_=>true) (f:=λs=>V.bl (hs s (lo+i))) (ys:=[]) (ah.of (s3 _ _ hl)) (gA.mp (hz.same s3)) (λv s _ r Q h=>?_) (λv s _ _ r Q h=>?_) (λl2 bp=>?_))⟩
 .rfl';exact h
 .obtain⟨pa,rfl,hpa⟩:=r;rfl';exact⟨pa,s.1,s.2,_,rfl,aj.of hpa,h⟩
 .have ef:([]:List V)++(ss.filter λ_=>true).map (λs=>V.bl (hs s (lo+i)))=(ss.map λs=>hs s (lo+i)).map V.bl:=by rw[YY,Z9.mpr λ_ _=>rfl,ZG];rfl
  rw[ef];have U:=s3.trans (ax (o:=.lst ((ss.map λs=>hs s (lo+i)).map V.bl)) bp);refine⟨l2,rfl,_,ah.of az,?_⟩;have js:=JB ss lo i;unfold sgn fO at js;refine aT (λh=>?_) λh=>?_
  .rw[if_pos h] at js;rfl';exact⟨_,rfl,_,rfl,by lia,⟨_,by rw[js,adO]⟩,U⟩
  .rw[if_neg h] at js;rfl';exact⟨_,rfl,_,rfl,by lia,⟨_,by rw[js,adO]⟩,U⟩
theorem WJ(b:Bool):(sgn b).cps.toList=[if b=true then 35 else 46]:=by cases b<;>decide
theorem WK(b:Bool):(⟨#[if b=true then 35 else 46]⟩:Str)=sgn b:=by cases b<;>decide
theorem JC(ss:List S2)(lo:Int):∀ n,(jA ss lo n).cps.toList=(Y1 n).map λi=>if fO ss (lo+(i:Nat))=true then 35 else 46
 | 0=>rfl
 | n+1=>by rw[JB,aeN,JC ss lo n,WJ,acN,Zd];rfl
theorem By(t:Int)(ss:List S2)(lo:Int)(n:Nat):(iQ t ss lo n).cps.toList=(g9 t).cps.toList++(Y1 n).map λi=>if fO ss (lo+(i:Nat))=true then 35 else 46 :=
 (aeN (g9 t) (jA ss lo n)).trans (by rw[JC])
theorem WL(t0:0<=t)(t1:t<12):(iQ t ss lo n).length=4+n:=by have l4:(g9 t).cps.toList.length=4:=(Z7).trans (pre_of t0 t1).2.2;have:=congrArg List.length (By t ss lo n);rw[YJ,l4,Yw,YQ] at this;exact (Z7).symm.trans this
theorem WM(t0:0<=t)(t1:t<12)(hi:i<n):cE (iQ t ss lo n).cps.toList (4+(i:Int))=some (if fO ss (lo+(i:Nat))=true then 35 else 46):=by have l4:(g9 t).cps.toList.length=4:=(Z7).trans (pre_of t0 t1).2.2;rw[By,show (4+(i:Int))=((4+i:Nat):Int) by lia];refine cF ?_;rw[ZD (by lia),l4,show 4+i-4=i by lia,YF,Zb hi];rfl
inductive WN(K:Yu)(B:YN)(vs:List V)(H:Hp)(Q:VK)(aQ:XK):Prop
 | mk(a x p w l:YN)(wv:V)(ns:List Int)(e t u d m:Int)(tb:Tb)(k lo hi:Int)(_:vs=[.ref a,.int k,.ref x,wv,.int lo,.ref l])(_:ah K H a (ns.map V.int))(_:gx ns)(_:0<=k)(_:k<=10)(_:cb B H x e t u d m p tb)(_:fK H wv w e t u d m tb)(_:fe e t u d m)(_:bL e t tb)(_:tb.length<=60)(_:lo<=hi)(_:hi-lo<=100)(_:H l=some (.lst ((c7 e t u d m tb lo hi).map V.str)))(_:∀ H',ak H H'->Q (.bl true) H')
theorem WO(T:Tx K mg):Ok P w base 35 T.sN (WN K T.aL):=by
 refine lF pE ?_;rintro _ A _ _ H _ _ _ hr ⟨a,x,p,w,l,wv,ns,e,t,u,d,m,tb,k,lo,hi,rfl,hS,hn,k0,k1,hb,hW,gG,bW,kA,hlh,JD,hl,q⟩;refine⟨_,(ar (aI 6 pE.nd (aE (cH T) hr (ae (aa 0) (ae (aF bG af (aa 1)) (ae af (ae (aw (aa 3) af) ag))))))
  (ar (aI 7 pE.nd (aE (cH T) hr (ae (aa 0) (ae (aF bG af (aa 1)) (ae af (ae (aF dn (a9 cK (by rfl) T.cp cf (ae (aw (aa 5) (aa 6)) ag)) af) ag))))))
  (ar (aI 8 pE.nd (dB (ae (bb (ae bo (ae (aa 6) (ae (bb (ae (aF bG (aa 4) (aa 7)) (ae (aF bG (aa 4) (aa 7)) ag))) ag)))) ag)))
  (ar (aI 9 pE.nd (cD (VP T) (hr.mono (by decide)) rfl T.x_ask.m T.x_ask.F.kp T.x_ask.b .nil kU (ae (aa 2) (ae (n4 CN (by rfl) T.pF oh (ae (aa 8) ag)) ag))))
  (ar (aJ (b9 (aw (aw (aa 5) (aa 6)) (aF bG af (aa 7))) bo) (au (aA (dQ (eV kK (aw (aa 9) af) bo (cO _)) (dQ (aE (V0 T) hr (ae (aa 3) (ae (aw (aa 9) af) ag))) (eS (eV kK (aw (aw (aa 9) af) (aa 6)) (aF bG (aa 4) (aa 7)) (cO _))))))) aK)
  (au (aA (dQ (eV kK (aw (aa 9) af) bo (cO _)) (eS (aE (Wd T) hr (ae (aa 3) (ae (aa 8) (ae (aw (aa 9) af) ag))))))))))))),?_⟩
 obtain⟨he,ht,u0,d0,m0,me⟩:=id gG;rfl';obtain⟨r,rfl,hw,hwt⟩:=id hW;refine aq (aj.of hw) rfl ⟨a,ns,_,_,_,rfl,hS,hn,⟨by lia,by lia⟩,by decide,by lia,λtn Yq Bz=>?_⟩;obtain⟨j,rfl⟩:∃ j:Nat,tn=(j:Int):=⟨tn.toNat,by lia⟩
 have hr:((c7 e t u d m tb lo hi).map V.str)[j]?=some (.str (iQ (j:Nat) (iD e t u d m tb j) lo (hi+1-lo).toNat)):=by unfold c7;rw[YF,YF,Zb (by lia)];rfl
 have rl:(iQ (j:Nat) (iD e t u d m tb j) lo (hi+1-lo).toNat).length=4+(hi+1-lo).toNat:=WL (by lia) (by lia);have rz:(iQ (j:Nat) (iD e t u d m tb j) lo (hi+1-lo).toNat).length<=Y0:=by rw[rl];exact YE (by lia:_<=105) (by decide)
 refine bq (ah.of hl) (cF hr) ⟨_,⟨rz,rfl⟩,a,ns,_,_,_,rfl,hS,hn,⟨by lia,by lia⟩,by decide,by lia,λat_ a0 a1=>?_⟩;obtain⟨i,rfl⟩:∃ i:Nat,at_=(i:Int):=⟨at_.toNat,by lia⟩
 have ra:=WM (t:=(j:Nat)) (by lia) (by lia) (ss:=iD e t u d m tb j) (lo:=lo) (i:=i) (n:=(hi+1-lo).toNat) (by lia);rfl';refine⟨by decide,λp1 fL=>⟨by decide,λp2 eK=>⟨by decide,λp3 lZ=>⟨_,.inl (ah.of az),λp4 lY=>?_⟩⟩⟩⟩;have s1:=ax (o:=.tup [.int (lo+i),.int (lo+i)]) fL;have s2:=ax (o:=.tup [.str (YG "at"),.int (j:Int),.ref p1]) eK;have s3:=ax (o:=.lst [.ref p2]) lZ;have s4:=ax (o:=.lst [.ref p2]) lY;have S:=s1.trans (s2.trans (s3.trans s4));have P1:=(s2.trans (s3.trans s4)) _ _ az;have P2:=(s3.trans s4) _ _ az;have P3:=s4 _ _ az;have P4:(upd (upd (upd (upd H p1 (.tup [.int (lo+i),.int (lo+i)])) p2 (.tup [.str (YG "at"),.int (j:Int),.ref p1])) p3 (.lst [.ref p2])) p4 (.lst [.ref p2])) p4=some (.lst [.ref p2]):=az;generalize upd (upd (upd (upd H p1 (.tup [.int (lo+i),.int (lo+i)])) p2 (.tup [.str (YG "at"),.int (j:Int),.ref p1])) p3 (.lst [.ref p2])) p4 (.lst [.ref p2])=H4 at S P1 P2 P3 P4 ⊢;clear s1 s2 s3 s4 fL eK lZ lY;have JE:iA H4 [.ref p2] [("at",(j:Int),(some (lo+i),some (lo+i)))]:=⟨⟨p2,p1,rfl,P2,P1⟩,trivial⟩
 have WQ:iC t [("at",(j:Int),(some (lo+i),some (lo+i)))]:=λp hp=>by rw[YZ.mp hp];exact (Po (show (YG "at")≠YG "step" by decide)).mpr ⟨rfl,by lia,Bz⟩
 have iff:=WE (u:=u) (d:=d) (n:=lo+i) he.1 me bW Bz;have WR:=SM (e:=e) (m:=m) (k:=j) u0 d0 bW ht.1 Bz (lo+i);refine⟨x,p,p4,e,t,u,d,m,_,_,tb,rfl,hb.same S,bW,kA,ht.1,ht.2,by lia,he.2,m0,by lia,ah.of P4,JE,(show 1<=900 by decide),λz=>absurd WQ z,λ_ v H5 s5 A=>?_⟩;have S5:=S.trans s5;refine bq (ah.of (S5 _ _ hl)) (cF hr) ?_;refine .inr (.inr ⟨_,_,_,rfl,rfl,rz,ra,?_⟩);rw[WK];have ib:fO (iD e t u d m tb j) (lo+(i:Nat))=true↔oU e t u d m tb j (lo+i):=by unfold fO;rw[List.any_map];exact WR
 by_cases bK:oU e t u d m tb j (lo+i)
 .rw[ib.mpr bK];rfl';rw[if_pos (by decide:sgn true=YG "#")];obtain⟨rr,rfl,⟨z,hrr,cg⟩|⟨c9,cs,L,hrr,JF,_,aX,F⟩⟩:=WA (by rw[Jz,v3];lia) (λr hr=>by rw[v3];have:=(bW.2 r hr).2;lia) A
  .obtain⟨L,c,F0⟩:=iff.mpr bK;exact absurd F0 (cg L c)
  rw[v3] at aX;have cn:dm cs j=lo+i:=by have:=mU.mp (F.2.2.1 j (dH (none,none) (sel _ "at" (j:Int))) (by unfold ff;rw[YF,Zb (by lia)];rfl)) (some (lo+i),some (lo+i)) (JA (p:=("at",(j:Int),(some (lo+i),some (lo+i)))) (.head _));have h1:lo+i<=dm cs j:=this.1 _ rfl;have h2:dm cs j<=lo+i:=this.2 _ rfl;lia
  refine aq (aj.of hrr) rfl ⟨rfl,?_⟩;rfl';refine aq (aj.of hrr) rfl ⟨.ref r,w,c9,e,t,u,d,m,tb,cs,rfl,hW.same S5,ht.1,ht.2,bW,kA,JF,aX,WB aX F,WC F,λH6 s6=>?_⟩;rfl';refine aq (aj.of (s6 _ _ hrr)) rfl (bq (ah.of (s6 _ _ JF)) (int_at (by lia) (by lia)) ⟨rfl,?_⟩);rw[Zq,show cs.getD j 0=lo+i from cn,decide_eq_true rfl];exact q _ (S5.trans s6)
 .rw[adl.mpr λz=>bK (ib.mp z)];rfl';rw[if_neg (by decide:¬ sgn false=YG "#")];obtain⟨rr,z,rfl,hrr,hR⟩:=WD A λL c F=>bK (iff.mp ⟨L,c,F⟩);refine aq (aj.of hrr) rfl ⟨rfl,?_⟩;rfl';exact aq (aj.of hrr) rfl ⟨.ref r,z,w,p3,e,t,u,d,m,tb,_,_,rfl,hW.same S5,ht.1,ht.2,bW,ah.of (s5 _ _ P3),JE.imp λ_ _ h=>h.same s5,(show 1<=900 by decide),hR,λH6 s6=>q _ (S5.trans s6)⟩
inductive WS(K:Yu)(B:YN)(vs:List V)(H:Hp)(Q:VK)(aQ:XK):Prop
 | mk(x p:YN)(e t u d m:Int)(tb:Tb)(lo hi:Int)(_:vs=[.ref x,.int lo,.int hi])(_:cb B H x e t u d m p tb)(_:(1<=e/\e<=7))(_:(1<=t/\t<=12))(_:0<=u)(_:0<=d)(_:bL e t tb)(_:tb.length<64)(_:hi<lo)(_:∀ H',ak H H'->Q (.bl true) H')
theorem JG(T:Tx K mg):Ok P w base 8 T.sP (WS K T.aL):=by
 refine aY rE ?_;rintro _ A _ _ H _ _ _ hr ⟨x,p,e,t,u,d,m,tb,lo,hi,rfl,hb,he,ht,hu,hd,ao,bH,aU,q⟩;refine⟨_,(ar (aI 3 rE.nd fj)
  (ar (MR (λcls _ H1=>cls = .ref T.cX/\ak H H1) 4 rfl rfl rfl T.HU rE.nd rfl rfl (λF pn hx=>(au (fo (cD (vZ T) (hr.mono (by decide)) rfl T.lK.m T.lK.F.kp T.lK.b .nil hx (ae (aa 0) (ae (aa 1) (ae (aa 2) ag))))))) (λA' pn=>(au (aI 3 rE.nd (dQ (a9 (C8 (K:=K) rfl) (by rfl) T.kz jM (ae (aa 4) (ae (wA (v:=.ref T.nE) rfl T.SY rfl) ag))) (eS (vq (a9 (C8 (K:=K) rfl) (by rfl) T.kz jM (ae (aa 4) (ae (wA (v:=.ref T.gd) rfl T.AY rfl) ag))))))))))
  (au (aA (aa 3))))),?_⟩
 rfl';refine⟨?_,?_⟩
 .rfl';exact⟨x,p,e,t,u,d,m,tb,lo,hi,rfl,hb,he,ht,hu,hd,ao,bH,by lia,λ_=>⟨rfl,ak.refl _⟩,λz=>absurd z (by lia)⟩
 .rintro cls H' ⟨rfl,hs⟩;refine⟨_,rfl,T.Th,λa ha=>?_⟩;have X0:=az (H:=H') (a:=a) (o:=gM a T.cX);have S0:=hs.trans (ax (o:=gM a T.cX) ha);generalize upd H' a (gM a T.cX)=Hx at X0 S0 ⊢;rfl';refine C9 X0 T.sT (λz=>nomatch z) T.Ti ?_;rfl';refine C9 X0 T.sT (λz=>nomatch z) T.Tj ?_;rfl';exact q _ S0
theorem WT(q:Q (.bl true) H):gL K (.str x) (.ty "str") H Q:=⟨_,_,cP.str x,(λz=>nomatch z),qm,q⟩
theorem JH:∀ {zs:List V} {bs:List Bool},ay (λv (b:Bool)=>v=V.bl b) zs bs->zs=bs.map V.bl
 | [],[],_=>rfl
 | _::_,_::_,h=>by rw[h.1,JH h.2];rfl
def WU(H:Hp)(a x l:YN)(wv:V)(lo hi:Int)(_:Nat)(σ:St)(H1:Hp):Prop:=(∃ e1 e2,σ=[some (.ref a),some (.ref x),some wv,some (.int lo),some (.int hi),some (.ref l),e1,e2])/\ak H H1
inductive WV(K:Yu)(B:YN)(vs:List V)(H:Hp)(Q:VK)(aQ:XK):Prop
 | mk(a x p w l:YN)(wv:V)(ns:List Int)(e t u d m:Int)(tb:Tb)(lo hi:Int)(_:vs=[.ref a,.ref x,wv,.int lo,.int hi,.ref l])(_:ah K H a (ns.map V.int))(_:gx ns)(_:cb B H x e t u d m p tb)(_:fK H wv w e t u d m tb)(_:fe e t u d m)(_:bL e t tb)(_:tb.length<=60)(_:lo<=hi)(_:hi-lo<=100)(_:H l=some (.lst ((c7 e t u d m tb lo hi).map V.str)))(_:∀ H',ak H H'->Q (.bl true) H')
theorem JI(T:Tx K mg):Ok P w base 36 T.sO (WV K T.aL):=by
 refine lF vC ?_;rintro _ _ _ _ H _ Q _ hr ⟨a,x,p,w,l,wv,ns,e,t,u,d,m,tb,lo,hi,rfl,hS,hn,hb,hW,gG,bW,kA,hlh,JD,hl,q⟩;refine⟨_,(ar (aJ (PW.pt (cI (cU (cy (a9 mC (by rfl) T.kz jM (ae (aa 5) (ae (mh (v:=.ty "list") rfl T.pF oh rfl) ag))))) (eB (nk (a9 cK (by rfl) T.cp cf (ae (aa 5) ag)) (aw (aa 2) af))))) (au (aA fj)) aK)
  (ar (cW afu rfl (ft rfl T.dt (ae (aw (aa 2) af) ag)) (ck 6 vC.nd) (ar (aI 7 vC.nd (aE (WI T) hr (ae (aa 6) (ae (cD (Bu T) (hr.mono (by decide)) rfl T.lJ.m T.lJ.F.kp T.lJ.b .nil kU (ae (aa 1) (ae (aa 6) ag))) (ae (aa 3) (ae (aa 4) ag))))))
    (au (aJ (PW.pt (cI (cU (cy (a9 mC (by rfl) T.kz jM (ae (aw (aa 5) (aa 6)) (ae (mh (v:=.ty "str") rfl T.vF uf rfl) ag))))) (eB (nk (aw (aa 5) (aa 6)) (aa 7))))) (au (aA fj)) aK))))
  (au (aA (a9 (DY rfl) (by rfl) T.HN CZ (ae (cN (bC.mk (fr:=[0,1,2,3,5]) (ys:=["_law_script","_law_board_here","_law_world_here","_law_low_here","_law_rows"]) rfl (by decide +kernel) rfl (by decide +kernel) rfl rfl (.cons rfl (.cons rfl (.cons rfl (.cons rfl (.cons rfl .nil))))) (.cons rfl rfl rfl rfl (.cons rfl rfl rfl rfl (.cons rfl rfl rfl rfl (.cons rfl rfl rfl rfl (.cons rfl rfl rfl rfl .nil))))) (by decide) rfl) rfl (ft rfl T.dt (ae af ag)) (λC s2 H2 ex pn=>⟨cQ,(aE (WO T) hr (ae (aa 1) (ae (aa 0) (ae (aa 2) (ae (aa 3) (ae (aa 4) (ae (aa 5) ag)))))))⟩)) ag)))))),?_⟩
 obtain⟨he,ht,u0,d0,m0,me⟩:=id gG;obtain⟨r,rfl,hw,hwt⟩:=id hW;have dl:((c7 e t u d m tb lo hi).map V.str).length=t.toNat:=by unfold c7;rw[Yw,Yw,YQ]
 refine aH (λσ H1=>σ=[some (.ref a),some (.ref x),some (.ref r),some (.int lo),some (.int hi),some (.ref l),none,none]/\H1=H) (λN hN=>?_) ?_
 .rfl';refine C4 hl ?_;rfl';refine⟨_,.inl ⟨_,ah.of hl,rfl⟩,aq (aj.of hw) rfl ?_⟩;rw[dl,show ((t.toNat:Nat):Int)=t by lia];rfl';exact hN _ _ ⟨rfl,rfl⟩
 rintro _ yR σ H1 ⟨rfl,rfl⟩;subst yR;refine aH (λσ H2=>(∃ e1 e2,σ=[some (.ref a),some (.ref x),some (.ref r),some (.int lo),some (.int hi),some (.ref l),e1,e2])/\ak H1 H2) (λN hN=>?_) ?_
 .rfl';refine aq (aj.of hw) rfl ⟨t,rfl,by lia,by lia,kQ (WU H1 a x l (.ref r) lo hi) ⟨⟨_,_,rfl⟩,ak.refl _⟩ ?_ (λσ H3 h=>hN _ _ ⟨h.1,h.2⟩)⟩;rintro k σ H3 hk ⟨⟨e1,e2,rfl⟩,s3⟩;have hr:((c7 e t u d m tb lo hi).map V.str)[k]?=some (.str (iQ (k:Nat) (iD e t u d m tb k) lo (hi+1-lo).toNat)):=by unfold c7;rw[YF,YF,Zb (by lia)];rfl
  rfl';refine⟨x,p,e,t,u,d,m,tb,0+k,rfl,hb.same s3,he,ht,u0,d0,bW,by lia,λz=>absurd ⟨by lia,by lia⟩ z,λj e1 h1 l4 ys H4 s4 _ nI hz=>?_⟩;obtain rfl:k=j:=by lia
  rfl';refine⟨l4,ys,_,_,lo,hi,rfl,by lia,by lia,nI,hz,Bw he,by lia,λH5 s5=>?_⟩;have S5:=s3.trans (s4.trans s5);have e0:(0:Int)+(k:Nat)=(k:Nat):=abP _;rw[e0];rfl';refine bq (ah.of (S5 _ _ hl)) (cF hr) (WT ?_);rfl';refine bq (ah.of (S5 _ _ hl)) (cF hr) ?_;rw[GR];exact aT (λz=>absurd rfl z) λ_=>⟨⟨_,_,rfl⟩,S5⟩
 rintro _ yR σ H2 ⟨⟨e1,e2,rfl⟩,s2⟩;subst yR;rfl';refine bS ir (by decide) (fB (R:=λ_ x (k:Nat)=>x=V.int ((0:Int)+k)) (R':=λ_ v (b:Bool)=>v=V.bl b) (f:=λ(_:Nat)=>true) (λ_ _ _ _ _ h=>h) (λ_ _ _ _ _ h=>h) (ay.fP _) (bs:=[]) trivial (λ_ _=>trivial) (λ_ k _ H3 s3 r Q h=>?_) (λ_ k hk H3 s3 r Q h=>?_) λH3 zs s3 hz=>?_)
 .rfl';exact h
 .subst r;have:=ZK.mp hk;rfl';have S3:=s2.trans s3;exact⟨a,x,p,w,l,_,ns,e,t,u,d,m,tb,_,lo,hi,rfl,S3.seq hS,hn,by lia,by lia,hb.same S3,hW.same S3,gG,bW,kA,hlh,JD,S3 _ _ hl,λH4 s4=>h _ _ s4 rfl⟩
 .intro l3 h3;have ez:=JH hz;rw[YY] at ez;refine⟨l3,rfl,_,by rw[ez];exact ah.of az,?_⟩;exact q _ (s2.trans (s3.trans (ax h3)))
theorem WW(h0:0<=t)(h1:t<12):(g9 t).cps.toList.all (· < 0x110000)=true:=by rcases (by lia:t=0∨t=1∨t=2∨t=3∨t=4∨t=5∨t=6∨t=7∨t=8∨t=9∨t=10∨t=11) with rfl|rfl|rfl|rfl|rfl|rfl|rfl|rfl|rfl|rfl|rfl|rfl<;>decide +kernel
theorem WX(h0:0<=t)(h1:t<12):acU (iQ t ss lo n)=true:=by unfold acU;rw[<- Array.all_toList,By,List.all_append,WW h0 h1,adH,ag4,aaP];intro i _;show decide ((if fO ss (lo+(i:Nat))=true then 35 else 46)<0x110000)=true;split<;>rfl
theorem tq:∀ ss:List Str,oz K H (ss.map V.str) (ss.map PyData.str)
 | []=>.nil
 | s::r=>.cons (.str s) (tq r)
theorem JJ{ss:List Str}(h:∀ s∈ss,acU s=true):Gd 1 (.list (ss.map PyData.str)):=.lst λd hd=>by obtain⟨s,hs,rfl⟩:=YO.mp hd;exact Gd.str (h s hs)
theorem JK(ht:t<=12):∀ s∈c7 e t u d m tb lo hi,acU s=true:=λs hs=>by obtain⟨k,hk,rfl⟩:=YO.mp hs;have:=ZK.mp hk;exact WX (by lia) (by lia)
theorem cb.WY{B:YN}{H H':Hp}{y p:YN}{e t u d m:Int}{tb:Tb}{kvs:List (List Key × V)}{s:P2}(ob:∃ dx,H y=some (.ins B dx (vL e t u d m p)))(hp:H p=some (.dT kvs))(hA:a8 H kvs tb)(sb:SameBut p H H')(dP:H' p=some (.dT (fU kvs (bE s.1 s.2)))):cb B H' y e t u d m p (j4 tb s) :=
 let ⟨dx,hx⟩:=ob
 ⟨⟨dx,sb y _ (λz=>by rw[z,hp] at hx;cases hx) hx⟩,_,dP,a8.drop (hA.imp λv a b z=>z.fr (SameBut.fr sb hp))⟩
inductive v5(K:Yu)(vs:List V)(H:Hp)(Q:VK)(aQ:XK):Prop
 | mk(a:YN)(ns:List Int)(_:vs=[.ref a])(_:ah K H a (ns.map V.int))(_:gx ns)(_:∀ H',Q (.bl true) H')
theorem WZ(T:Tx K mg):Ok P w base 37 T.nD (v5 K):=by
 refine aY gT ?_;rintro _ _ _ s H _ _ _ hr ⟨a,ns,rfl,hS,hn,q⟩;refine⟨_,(ar (aI 1 gT.nd (aE (Uc T) hr (ae (aa 0) ag)))
  (ar (aI 2 gT.nd (aE (Ue T) hr (ae (aa 0) (ae (aa 1) (ae (aE (T8 T) hr (ae (aa 0) ag)) ag)))))
  (ar (aI 3 gT.nd (aE (Uk T) hr (ae (aa 0) (ae (aa 1) (ae (aa 2) ag)))))
  (ar (aI 4 gT.nd (aE (UK T) hr (ae (aa 3) ag)))
  (ar (aI 5 gT.nd (aE (Wx T) hr (ae (aa 0) (ae (aa 4) (ae (aa 3) (ae (aa 2) ag))))))
  (ar (aI 6 gT.nd (aF bG (aa 5) (aE (cH T) hr (ae (aa 0) (ae af (ae af (ae af ag)))))))
  (ar (aI 7 gT.nd (aE (vZ T) hr (ae (aa 4) (ae (aa 5) (ae (aa 6) ag)))))
  (ar (aJ (cU (cy (aE (JI T) hr (ae (aa 0) (ae (aa 4) (ae (aa 3) (ae (aa 5) (ae (aa 6) (ae (aa 7) ag))))))))) (au (aA fj)) aK)
  (ar (aI 8 gT.nd (n4 CN (by rfl) T.pF oh (ae (aa 7) ag)))
  (ar (fo (ja ZP aae aaf n9 (aa 7) (ae bo ag)))
  (ar (aJ (iZ (NT hr.units) (aE (vZ T) hr (ae (aa 4) (ae (aa 5) (ae (aa 6) ag)))) (aa 8) (cO _)) (au (aA fj)) aK)
  (ar (aJ (pd (a9 E6 (by rfl) T.cp cf (ae (aw (aa 3) af) ag)) af) (ar (aI 9 gT.nd (aw (n4 (O6 rfl) (by rfl) T.pF oh (ae (aw (aa 3) af) ag)) (aE (cH T) hr (ae (aa 0) (ae af (ae af (ae (a9 E6 (by rfl) T.cp cf (ae (aw (aa 3) af) ag)) ag)))))))
    (ar (fo (i5 (aa 4) T.bI T.Te (Ur T) (hr.mono (by decide)) T.lO.b .nil bX (ae (aw (aa 9) af) (ae (aw (aa 9) af) ag))))
    (ar (fo (E5 (eX hr) (aw (aa 3) af) (aa 9) ⟨rfl,rfl,rfl,rfl⟩))
    (au (aJ (cU (cy (aE (JI T) hr (ae (aa 0) (ae (aa 4) (ae (aa 3) (ae (aa 5) (ae (aa 6) (ae (aE (vZ T) hr (ae (aa 4) (ae (aa 5) (ae (aa 6) ag)))) ag))))))))) (au (aA fj)) aK))))) aK)
  (au (aA (dQ (eV (NS hr.units) (aa 7) (aF jL (aa 8) (dB (ae bo ag))) (cO _)) (dQ (aE (JG T) hr (ae (aa 4) (ae (aF bG (aa 6) af) (ae (aa 5) ag)))) (eS (aE (JG T) hr (ae (aa 4) (ae (aF bG (aa 5) af) (ae (aa 5) ag))))))))))))))))))))),?_⟩
 refine aH (λσ H1=>∃ (r:YN) (e t u d m f:Int),σ=[some (.ref a),some (.ref r),none,none,none,none,none,none,none,none]/\ak H H1/\H1 r=some (.tup (vM e t u d m f))/\sW e t u d m f) (λN hN=>?_) ?_
 .rfl';exact⟨a,ns,rfl,hS,hn,λr e t u d m f H1 s1 cT sh=>hN _ _ ⟨r,e,t,u,d,m,f,rfl,s1,cT,sh⟩⟩
 rintro _ yR σ H1 ⟨r,e,t,u,d,m,f,rfl,s1,cT,sh⟩;subst yR;refine aH (λσ H2=>∃ (c:YN) (cs:List Int),σ=[some (.ref a),some (.ref r),some (.ref c),none,none,none,none,none,none,none]/\ak H1 H2/\H2 c=some (.lst (cs.map V.int))/\cs.length=t.toNat) (λN hN=>?_) ?_
 .rfl';refine⟨a,ns,rfl,s1.seq hS,hn,λn H2 s2=>?_⟩;exact⟨a,r,ns,e,t,u,d,m,f,n,rfl,(s1.trans s2).seq hS,hn,aj.of (s2 _ _ cT),sh,λc cs H3 s3 _ hc aX _=>hN _ _ ⟨c,cs,rfl,s2.trans s3,hc,aX⟩⟩
 rintro _ yR σ H2 ⟨c,cs,rfl,s2,uq,aX⟩;subst yR;have S2:=s1.trans s2;refine aH (λσ H3=>∃ (wr w:YN) (tb:Tb),σ=[some (.ref a),some (.ref r),some (.ref c),some (.ref wr),none,none,none,none,none,none]/\ak H2 H3/\H3 wr=some (.tup [.int e,.int t,.int (f * u),.int (f * d),.int m,.ref w])/\TabAt H3 w tb/\bL e t tb/\∀ r∈tb,aO r.2.1 r.2.2=false) (λN hN=>?_) ?_
 .rfl';refine⟨a,r,c,ns,cs,e,t,u,d,m,f,rfl,S2.seq hS,hn,aj.of (s2 _ _ cT),sh,ah.of uq,aX,λv w tb H3 s3 _ hW ao _ dv=>?_⟩;obtain⟨wr,rfl,h1,h2⟩:=hW;exact hN _ _ ⟨wr,w,tb,rfl,s3,h1,h2,ao,dv⟩
 rintro _ yR σ H3 ⟨wr,w,tb,rfl,s3,hwr,hT,bW,dv⟩;subst yR;have S3:=S2.trans s3;have et:=Ih sh;have gG:fe e t (f * u) (f * d) m:=⟨sh.he,sh.ht,abb (by have:=sh.hf;lia) sh.hu.1,abb (by have:=sh.hf;lia) sh.hd.1,sh.hm.1,sh.hm.2⟩
 obtain⟨he,ht,u0,d0,m0,me⟩:=id gG;have iP:=SS bW (by lia) (by lia);refine aH (λσ H4=>∃ (x p:YN),σ=[some (.ref a),some (.ref r),some (.ref c),some (.ref wr),some (.ref x),none,none,none,none,none]/\ak H3 H4/\H3 p=none/\cb T.aL H4 x e t (f * u) (f * d) m p tb) (λN hN=>?_) ?_
 .rfl';exact⟨.ref wr,w,e,t,f * u,f * d,m,tb,rfl,⟨wr,rfl,hwr,hT⟩,gG,bW,by lia,dv,λx p H4 s4 _ fp hB=>hN _ _ ⟨x,p,rfl,s4,fp,hB⟩⟩
 rintro _ yR σ H4 ⟨x,p,rfl,s4,fp,kB⟩;subst yR;have S4:=S3.trans s4;have v7:fK H4 (.ref wr) w e t (f * u) (f * d) m tb:=⟨wr,rfl,s4 _ _ hwr,hT.same s4⟩
 have wp:w≠p:=λz=>by obtain⟨ks,lX,_⟩:=hT;rw[z,fp] at lX;cases lX
 generalize f * u=u at gG kB v7 u0 hwr;generalize f * d=d at gG kB v7 d0 hwr;refine aH (λσ H5=>∃ lo:Int,σ=[some (.ref a),some (.ref r),some (.ref c),some (.ref wr),some (.ref x),some (.int lo),none,none,none,none]/\ak H4 H5) (λN hN=>?_) ?_
 .rfl';exact⟨a,x,p,c,w,.ref wr,ns,cs,e,t,u,d,m,tb,rfl,S4.seq hS,hn,kB,v7,he,ht,u0,d0,bW,by lia,ah.of ((s3.trans s4) _ _ uq),aX,λn H5 s5=>hN _ _ ⟨n,rfl,s5⟩⟩
 rintro _ yR σ H5 ⟨lo,rfl,s5⟩;subst yR;refine aH (λσ H6=>∃ hi:Int,σ=[some (.ref a),some (.ref r),some (.ref c),some (.ref wr),some (.ref x),some (.int lo),some (.int hi),none,none,none]/\H6=H5/\lo<=hi/\hi-lo<=60) (λN hN=>?_) ?_
 .rfl';exact⟨a,ns,303,10067,60,rfl,(S4.trans s5).seq hS,hn,⟨by decide,by decide⟩,by decide,by decide,λk k0 k1=>hN _ _ ⟨_,rfl,rfl,by lia,by lia⟩⟩
 rintro _ yR σ H6 ⟨hi,rfl,rfl,JL,Yr⟩;subst yR;have S6:=S4.trans s5;have BA:=kB.same s5;have JM:=v7.same s5;refine aH (λσ H7=>∃ l,σ=[some (.ref a),some (.ref r),some (.ref c),some (.ref wr),some (.ref x),some (.int lo),some (.int hi),some (.ref l),none,none]/\ak H6 H7/\H6 l=none/\H7 l=some (.lst ((c7 e t u d m tb lo hi).map V.str))) (λN hN=>?_) ?_
 .rfl';exact⟨x,p,e,t,u,d,m,tb,lo,hi,rfl,BA,he,ht,u0,d0,bW,by lia,by lia,λz=>absurd z (by lia),λ_ l H7 s7 f7 hl=>hN _ _ ⟨l,rfl,s7,f7,hl⟩⟩
 rintro _ yR σ H7 ⟨l,rfl,s7,f7,v8⟩;subst yR;refine aH (λσ H8=>σ=[some (.ref a),some (.ref r),some (.ref c),some (.ref wr),some (.ref x),some (.int lo),some (.int hi),some (.ref l),none,none]/\ak H7 H8) (λN hN=>?_) ?_
 .rfl';exact⟨a,x,p,w,l,.ref wr,ns,e,t,u,d,m,tb,lo,hi,rfl,(S6.trans s7).seq hS,hn,BA.same s7,JM.same s7,gG,bW,by lia,JL,by lia,v8,λH8 s8=>hN _ _ ⟨rfl,s8⟩⟩
 rintro _ yR σ H8 ⟨rfl,s8⟩;subst yR;refine aH (λσ H9=>∃ k,σ=[some (.ref a),some (.ref r),some (.ref c),some (.ref wr),some (.ref x),some (.int lo),some (.int hi),some (.ref l),some (.ref k),none]/\ak H8 H9/\H8 k=none/\H9 k=some (.lst ((c7 e t u d m tb lo hi).map V.str))) (λN hN=>?_) ?_
 .rfl';exact⟨_,.inl (ah.of (s8 _ _ v8)),λk hk=>hN _ _ ⟨k,rfl,ax hk,hk,az⟩⟩
 rintro _ yR σ H9 ⟨k,rfl,s9,f9,Ji⟩;subst yR;have vW:=s9 _ _ (s8 _ _ v8);have dl:(c7 e t u d m tb lo hi).length=t.toNat:=by unfold c7;rw[Yw,YQ]
 have lk:l≠k:=λz=>by have:=s8 _ _ v8;rw[z,f9] at this;cases this
 refine aH (λσ tu=>σ=[some (.ref a),some (.ref r),some (.ref c),some (.ref wr),some (.ref x),some (.int lo),some (.int hi),some (.ref l),some (.ref k),none]/\ak H6 tu/\tu l=some (.lst ((c7 e t u d m tb lo hi++[YG "x"]).map V.str))/\tu k=some (.lst ((c7 e t u d m tb lo hi).map V.str))) (λN hN=>?_) ?_
 .rfl';refine⟨.inl ⟨rfl,_,ah.of vW⟩,_,vW,ZL (by rw[Yw,dl];lia:_<=12) (by decide),hN _ _ ⟨rfl,jN f7 (s7.trans (s8.trans s9)),by rw[az,Zd];rfl,by rw[aC (Zt lk)];exact Ji⟩⟩
 rintro _ yR σ tu ⟨rfl,BB,W0,JN⟩;subst yR;have JO:=BA.same BB;have W3:=JM.same BB;have W5:=S6.trans BB;have gk:Gd 1 (.list ((c7 e t u d m tb lo hi).map PyData.str)):=JJ (JK ht.2);refine aH (λσ tx=>σ=[some (.ref a),some (.ref r),some (.ref c),some (.ref wr),some (.ref x),some (.int lo),some (.int hi),some (.ref l),some (.ref k),none]/\ak tu tx) (λN hN=>?_) ?_
 .rfl';refine⟨x,p,e,t,u,d,m,tb,lo,hi,rfl,JO,he,ht,u0,d0,bW,by lia,by lia,λz=>absurd z (by lia),λ_ l2 tx l8 _ wa=>?_⟩;exact Fh (.lst (ah.of wa) (tq _)) (.lst (ah.of (l8 _ _ JN)) (tq _)) gk (by decide) ⟨false,rfl,hN _ _ ⟨rfl,l8⟩⟩
 rintro _ yR σ tx ⟨rfl,l8⟩;subst yR;have JP:=W5.trans l8;have BC:=JO.same l8;have JQ:=W3.same l8;have wa:=l8 _ _ W0;have JR:=l8 _ _ JN;refine aH (λσ iR=>(∃ z1,σ=[some (.ref a),some (.ref r),some (.ref c),some (.ref wr),some (.ref x),some (.int lo),some (.int hi),some (.ref l),some (.ref k),z1])/\∃ pR,cb T.aL iR x e t u d m p pR/\bL e t pR/\pR.length<=60/\iR l=some (.lst ((c7 e t u d m tb lo hi++[YG "x"]).map V.str))/\iR k=some (.lst ((c7 e t u d m tb lo hi).map V.str))) (λN hN=>?_) ?_
 .obtain⟨_,er,wb,kw,hkw,wc⟩:=id JQ;cases er;rfl';refine aq (aj.of wb) (v:=.ref w) rfl ⟨w,rfl,kw,hkw,aT (λh0=>?_) λ_=>hN _ _ ⟨⟨none,rfl⟩,tb,BC,bW,by lia,wa,JR⟩⟩;refine aq (aj.of wb) (v:=.ref w) rfl ⟨w,rfl,kw,hkw,λl1 ys h1 lX=>?_⟩;have u1:=ax (o:=.lst ys) h1;have P0:eI tx ys (tb.map (·.1)):=wc.qG lX;have pl:=P0.len;have wl:=wc.len;rw[Yw] at pl;refine aq (aj.of (u1 _ _ wb)) (v:=.ref w) rfl ⟨w,rfl,kw,u1 _ _ hkw,a,ns,13,10177,_,rfl,(JP.trans u1).seq hS,hn,⟨by decide,by decide⟩,by decide,by lia,λi i0 i1=>?_⟩;obtain⟨j,rfl⟩:=Int.eq_ofNat_of_zero_le i0;have hj:j<ys.length:=by lia
  have hv:=Yx hj;obtain⟨s0,Bx,ka,W6,hka⟩:=P0.get hv;rw[YF] at Bx;obtain⟨rr,hrr,rfl⟩:=Zh.mp Bx;have pI:=Y6 hrr;obtain⟨⟨dx,hx⟩,kp,hkp,JS⟩:=id BC;obtain⟨vv,hvv,_⟩:=(JS.val rr.1).2 _ (oR bW.1 pI);obtain⟨vw,hvw,_⟩:=(wc.val rr.1).2 _ (oR bW.1 pI);refine bq (ah.of az) (cF hv) ?_;rw[W6];refine⟨_,_,u1 _ _ hx,rfl,aq (aj.of (u1 _ _ hka)) rfl (aq (aj.of (u1 _ _ hka)) rfl ?_)⟩;have B1:=BC.same u1;have W1:=JQ.same u1;have ki:=u1 _ _ wa;have gZ:=u1 _ _ JR;have JT:=u1 _ _ hka;have JU:=u1 _ _ wb;have JV:=u1 _ _ hkw;have wg:=u1 _ _ hkp;have jc:=u1 _ _ hx;have JW:=(JP.trans u1).seq hS;have JX:=JS.imp λv a b z=>aG.same z u1;have JY:=wc.imp λv a b z=>aG.same z u1;generalize upd tx l1 (.lst ys)=G1 at B1 W1 ki gZ JT JU JV wg jc JW JX JY ⊢;refine⟨x,p,e,t,u,d,m,rr.1.1,rr.1.2,kp,rfl,⟨⟨dx,jc⟩,wg⟩,λz=>absurd (hvv.symm.trans z) (λz=>nomatch z),λv _ iR sb W7=>?_⟩;have pS:Fr G1 iR:=SameBut.fr sb wg;have JZ:=cb.WY (s:=rr.1) ⟨dx,jc⟩ wg JX sb W7;have J0:=pS _ (.tup _) (λ_ z=>nomatch z) JU;have W8:=pS _ (.tup _) (λ_ z=>nomatch z) JT;have BD:=sb w _ wp JV;have W9:=JY.imp λv a b z=>z.fr pS;refine aq (aj.of J0) (v:=.ref w) rfl ⟨w,rfl,.inr ⟨kw,.inl BD⟩,ka,rfl,kw,BD,bE rr.1.1 rr.1.2,W8,vw,hvw,?_⟩;have md:Fr iR (upd iR w (.dT (fU kw (bE rr.1.1 rr.1.2)))):=Fe BD;have J1:upd iR w (.dT (fU kw (bE rr.1.1 rr.1.2))) w=some (.dT (fU kw (bE rr.1.1 rr.1.2))):=az;have J5:TabAt (upd iR w (.dT (fU kw (bE rr.1.1 rr.1.2)))) p (j4 tb rr.1):=JZ.tb.fr md λ_ z=>by rw[aC (Zt wp)];exact z
  generalize upd iR w (.dT (fU kw (bE rr.1.1 rr.1.2)))=BE at md J1 J5 ⊢;have BF:=JZ.now md J5;have Xa:TabAt BE w (j4 tb rr.1):=⟨_,J1,a8.drop (s:=rr.1) (W9.imp λv a b z=>z.fr md)⟩
  have Xb:fK BE (.ref wr) w e t u d m (j4 tb rr.1):=⟨wr,rfl,md _ (.tup _) (λ_ z=>nomatch z) J0,Xa⟩
  have pU:bL e t (j4 tb rr.1):=bW.drop;have n2:(j4 tb rr.1).length<=tb.length:=Ze _ _;have Xc:=Ff (Ff JW pS) md;refine⟨x,p,e,t,u,d,m,_,lo,hi,rfl,BF,he,ht,u0,d0,pU,by lia,by lia,λz=>absurd z (by lia),λ_ l3 Xd wj _ Xe=>?_⟩;refine⟨a,x,p,w,l3,.ref wr,ns,e,t,u,d,m,_,lo,hi,rfl,wj.seq Xc,hn,BF.same wj,Xb.same wj,gG,pU,by lia,JL,by lia,Xe,λYs Xf=>?_⟩;have BG:=wj.trans Xf;exact hN _ _ ⟨⟨_,rfl⟩,_,BF.same BG,pU,by lia,BG _ _ (md _ (.lst _) (λ_ z=>nomatch z) (pS _ (.lst _) (λ_ z=>nomatch z) ki)),BG _ _ (md _ (.lst _) (λ_ z=>nomatch z) (pS _ (.lst _) (λ_ z=>nomatch z) gZ))⟩
 rintro _ yR σ iR ⟨⟨z1,rfl⟩,pR,J6,pU,h2,Xg,Xi⟩;subst yR;rfl';refine⟨by decide,λp1 h1=>⟨_,(ax h1) _ _ Xi,_,az,YE (by rw[Yw,dl];show _+1<=13;lia:_<=13) (by decide),λp2 h2=>?_⟩⟩;have u1:=ax (o:=.lst [.str (YG "x")]) h1;have u2:=u1.trans (ax (o:=.lst ((c7 e t u d m tb lo hi).map V.str++[V.str (YG "x")])) h2);have e2:(c7 e t u d m tb lo hi).map V.str++[V.str (YG "x")]=(c7 e t u d m tb lo hi++[YG "x"]).map V.str:=by rw[Zd];rfl
 rw[e2] at u2 ⊢;refine Fh (.lst (ah.of (u2 _ _ Xg)) (tq _)) (.lst (ah.of az) (tq _)) (JJ λs hs=>(YX.mp hs).elim (JK ht.2 s) λz=>by rw[YZ.mp z];decide +kernel) (by decide) ?_;refine⟨x,p,e,t,u,d,m,pR,_,_,rfl,J6.same u2,he,ht,u0,d0,pU,by lia,by lia,λBE Xj=>?_⟩;rfl';exact⟨x,p,e,t,u,d,m,pR,_,_,rfl,(J6.same u2).same Xj,he,ht,u0,d0,pU,by lia,by lia,λXd _=>q _⟩
end
theorem Xk{l:aec}{w:aaa}{K:Yu}{h:aa4}{mg:Str->Option YB}{fa:YN}(X:K.In h)(G:h.Ns Y9 mg)(Xl:mg "law" = some (.ref fa))
 {nE:YN}
 {cX:YN}
 {lU:YN}
 {jz:YN}
 {gd:YN}
 {aL:YN}
 {Xm:ClassData}
 {Xn:Tok}
 {Xo:Tok}
 (Xq:Zi K Y9 "GazeError" = some (some (.ref nE)))
 (Xr:Zi K Y9 "NoStretch" = some (some (.ref cX)))
 (Xs:Zi K Y9 "NoBoard" = some (some (.ref lU)))
 (Xt:Zi K Y9 "NoTelling" = some (some (.ref jz)))
 (Xu:Zi K Y9 "NoClaim" = some (some (.ref gd)))
 (Xv:Zi K Y9 "Board" = some (some (.ref aL)))
 (rF:Fb K "is_crossed" "is_crossed" zw (aM K "is_crossed"))
 (rG:Fb K "holds" "holds" zx (aM K "holds"))
 (rH:Fb K "meet" "meet" zy (aM K "meet"))
 (rJ:Fb K "common" "common" zz (aM K "common"))
 (rK:Fb K "hull" "hull" zA (aM K "hull"))
 (nB:Fb K "by_lo" "by_lo" zB (aM K "by_lo"))
 (rL:Fb K "leaves_gap" "leaves_gap" zC (aM K "leaves_gap"))
 (rM:Fb K "gathered" "gathered" zD (aM K "gathered"))
 (rN:Fb K "number_in" "number_in" zE (aM K "number_in"))
 (rO:Fb K "moved" "moved" zF (aM K "moved"))
 (rP:Fb K "narrowed" "narrowed" zG (aM K "narrowed"))
 (rQ:Fb K "stretches_at" "stretches_at" zH (aM K "stretches_at"))
 (rR:Fb K "tube" "tube" zI (aM K "tube"))
 (rS:Fb K "course_in" "course_in" zJ (aM K "course_in"))
 (rT:Fb K "lesser" "lesser" zK (aM K "lesser"))
 (rV:Fb K "lifted" "lifted" zL (aM K "lifted"))
 (rW:Fb K "ceilings" "ceilings" zM (aM K "ceilings"))
 (rX:Fb K "crossing" "crossing" zN (aM K "crossing"))
 (rY:Fb K "has_part" "has_part" zO (aM K "has_part"))
 (iK:Fb K "check_claim" "check_claim" zP (aM K "check_claim"))
 (rZ:Fb K "stretches_of" "stretches_of" zQ (aM K "stretches_of"))
 (lG:Fb K "paces" "paces" zR (aM K "paces"))
 (lH:Fb K "wanted" "wanted" zS (aM K "wanted"))
 (sd:Fb K "marks_of" "marks_of" zT (aM K "marks_of"))
 (se:Fb K "marks_without" "marks_without" zU (aM K "marks_without"))
 (sf:Fb K "groups_of" "groups_of" zV (aM K "groups_of"))
 (si:Fb K "clashes" "clashes" zW (aM K "clashes"))
 (sk:Fb K "choices" "choices" zX (aM K "choices"))
 (sm:Fb K "tubes" "tubes" zY (aM K "tubes"))
 (lJ:Fb K "places" "places" zZ (aM K "places"))
 (so:Fb K "sign_of" "sign_of" z4 (aM K "sign_of"))
 (sq:Fb K "row_of" "row_of" z5 (aM K "row_of"))
 (lK:Fb K "drawing" "drawing" z6 (aM K "drawing"))
 (nC:Fb K "__init__" "Board.__init__" z7 (jy K aL "__init__"))
 (lM:Fb K "has_eye" "Board.has_eye" z8 (jy K aL "has_eye"))
 (gU:Fb K "has_turn" "Board.has_turn" z9 (jy K aL "has_turn"))
 (lN:Fb K "tell" "Board.tell" Aa (jy K aL "tell"))
 (lO:Fb K "hush" "Board.hush" Ab (jy K aL "hush"))
 (kx:Fb K "tellings" "Board.tellings" Ac (jy K aL "tellings"))
 (lP:Fb K "check_spot" "Board.check_spot" Ad (jy K aL "check_spot"))
 (lQ:Fb K "check_word" "Board.check_word" Ae (jy K aL "check_word"))
 (iL:Fb K "without" "without" Af (aM K "without"))
 (lR:Fb K "eyes_of" "eyes_of" Ag (aM K "eyes_of"))
 (iM:Fb K "put_aside" "put_aside" Ah (aM K "put_aside"))
 (gV:Fb K "branch" "branch" Ai (aM K "branch"))
 (gW:Fb K "paper" "paper" Aj (aM K "paper"))
 (x_ask:Fb K "ask" "ask" Ak (aM K "ask"))
 (su:Fb K "_law_draw" "_law_draw" Al (aM K "_law_draw"))
 (sx:Fb K "_law_base" "_law_base" Am (aM K "_law_base"))
 (lS:Fb K "_law_whole" "_law_whole" An (aM K "_law_whole"))
 (sy:Fb K "_law_within" "_law_within" Ao (aM K "_law_within"))
 (sA:Fb K "_law_shape" "_law_shape" Ap (aM K "_law_shape"))
 (sC:Fb K "_law_true_course" "_law_true_course" Aq (aM K "_law_true_course"))
 (sD:Fb K "_law_word" "_law_word" Ar (aM K "_law_word"))
 (sE:Fb K "_law_world" "_law_world" As (aM K "_law_world"))
 (sF:Fb K "_law_board" "_law_board" Au (aM K "_law_board"))
 (sG:Fb K "_law_liars" "_law_liars" Av (aM K "_law_liars"))
 (sH:Fb K "_law_fits" "_law_fits" Aw (aM K "_law_fits"))
 (sI:Fb K "_law_common" "_law_common" Ax (aM K "_law_common"))
 (iN:Fb K "_law_empty" "_law_empty" Ay (aM K "_law_empty"))
 (lT:Fb K "_law_climb" "_law_climb" Az (aM K "_law_climb"))
 (iO:Fb K "_law_mark" "_law_mark" AA (aM K "_law_mark"))
 (gX:Fb K "_law_branch" "_law_branch" AB (aM K "_law_branch"))
 (ky:Fb K "_law_clash" "_law_clash" AD (aM K "_law_clash"))
 (gF:Fb K "_law_refuted" "_law_refuted" AE (aM K "_law_refuted"))
 (sJ:Fb K "_law_refutes" "_law_refutes" AF (aM K "_law_refutes"))
 (sL:Fb K "_law_low" "_law_low" AG (aM K "_law_low"))
 (sM:Fb K "_law_row" "_law_row" AH (aM K "_law_row"))
 (sN:Fb K "_law_spot" "_law_spot" AI (aM K "_law_spot"))
 (sO:Fb K "_law_drawn" "_law_drawn" AJ (aM K "_law_drawn"))
 (sP:Fb K "_law_refused" "_law_refused" AK (aM K "_law_refused"))
 (nD:Fb K "law" "law" AL (aM K "law"))
 (Xw:Zi K Y9 "all" = some none)
 (Xx:Zi K Y9 "any" = some none)
 (Xy:Zi K Y9 "bool" = some none)
 (Xz:Zi K Y9 "enumerate" = some none)
 (XA:Zi K Y9 "int" = some none)
 (XB:Zi K Y9 "isinstance" = some none)
 (XD:Zi K Y9 "len" = some none)
 (XE:Zi K Y9 "list" = some none)
 (XF:Zi K Y9 "max" = some none)
 (XG:Zi K Y9 "min" = some none)
 (XH:Zi K Y9 "range" = some none)
 (XI:Zi K Y9 "reversed" = some none)
 (XJ:Zi K Y9 "set" = some none)
 (XM:Zi K Y9 "sorted" = some none)
 (XN:Zi K Y9 "str" = some none)
 (XO:Zi K Y9 "sum" = some none)
 (XQ:Zi K Y9 "tuple" = some none)
 (XR:Zi K Y9 "zip" = some none)
 (bI:fv K aL)
 (pG:ZA K (.ref aL) "eyes" = some none)
 (nF:ZA K (.ref aL) "turns" = some none)
 (vG:ZA K (.ref aL) "up" = some none)
 (vH:ZA K (.ref aL) "down" = some none)
 (pH:ZA K (.ref aL) "most" = some none)
 (lV:ZA K (.ref aL) "told" = some none)
 (AZ:ad6 K aL=true) (XS:aba K (.ref aL)=true)
 (sR:XC K lU)
 (sS:XC K jz)
 (vI:XC K gd)
 (sT:XC K cX)
 (XT:aeW K cX=some Xm)
 (XU:ac0 K (.ref cX)=some (.type "type"))
 (XW:abS K (.ref cX) (.type "BaseException")=some true)
 (XX:abS K (.ref cX) (.ref cX)=some true)
 (XY:ZC K (.ref cX) (.ref nE)=some true)
 (XZ:ZC K (.ref cX) (.ref gd)=some false)
 (X2:Zi K Y9 "EYES_AT_MOST" = some (some (.int 7 Xn)))
 (X3:Zi K Y9 "TURNS_AT_MOST" = some (some (.int 12 Xo)))
 : ∃ fd:abD,(∀ (s:YK) (v:YB),afg s fd ⟨[v],[]⟩ [("_law_script",v)])/\∀ base:aa4,K.In base->base.Ns Y9 mg->dC l.prog w K mg base (de l.prog w) 37 fa fd ["_law_script"] (v5 K):=by
 obtain⟨rF⟩:=rF.fn X G Ha;obtain⟨rG⟩:=rG.fn X G Hb;obtain⟨rH⟩:=rH.fn X G vt;obtain⟨rJ⟩:=rJ.fn X G rm;obtain⟨rK⟩:=rK.fn X G pw;obtain⟨nB⟩:=nB.fn X G Hc;obtain⟨rL⟩:=rL.fn X G Hd;obtain⟨rM⟩:=rM.fn X G vx;obtain⟨rN⟩:=rN.fn X G He;obtain⟨rO⟩:=rO.fn X G vy;obtain⟨rP⟩:=rP.fn X G nq;obtain⟨rQ⟩:=rQ.fn X G Hf;obtain⟨rR⟩:=rR.fn X G vz;obtain⟨rS⟩:=rS.fn X G pA;obtain⟨rT⟩:=rT.fn X G Hg;obtain⟨rV⟩:=rV.fn X G Hh;obtain⟨rW⟩:=rW.fn X G nr;obtain⟨rX⟩:=rX.fn X G rn;obtain⟨rY⟩:=rY.fn X G Hi;obtain⟨iK⟩:=iK.fn X G AM;obtain⟨rZ⟩:=rZ.fn X G Hj;obtain⟨lG⟩:=lG.fn X G AN;obtain⟨lH⟩:=lH.fn X G Hk;obtain⟨sd⟩:=sd.fn X G Hl;obtain⟨se⟩:=se.fn X G Hm;obtain⟨sf⟩:=sf.fn X G Hn;obtain⟨si⟩:=si.fn X G ku;obtain⟨sk⟩:=sk.fn X G rq;obtain⟨sm⟩:=sm.fn X G rA;obtain⟨lJ⟩:=lJ.fn X G Ho;obtain⟨so⟩:=so.fn X G Hq;obtain⟨sq⟩:=sq.fn X G AO;obtain⟨lK⟩:=lK.fn X G Hr;obtain⟨nC,J9⟩:=nC.fm Hs;obtain⟨lM,Ka⟩:=lM.fm Ht;obtain⟨gU,Kb⟩:=gU.fm Hu;obtain⟨lN,Kc⟩:=lN.fm Hv;obtain⟨lO,Kd⟩:=lO.fm Hw;obtain⟨kx,Ke⟩:=kx.fm Hy;obtain⟨lP,Kf⟩:=lP.fm Hz;obtain⟨lQ,Kg⟩:=lQ.fm HC;obtain⟨iL⟩:=iL.fn X G HD;obtain⟨lR⟩:=lR.fn X G HE;obtain⟨iM⟩:=iM.fn X G rB;obtain⟨gV⟩:=gV.fn X G HF;obtain⟨gW⟩:=gW.fn X G nu;obtain⟨x_ask⟩:=x_ask.fn X G nv;obtain⟨su⟩:=su.fn X G HG;obtain⟨sx⟩:=sx.fn X G AQ;obtain⟨lS⟩:=lS.fn X G HH;obtain⟨sy⟩:=sy.fn X G HI;obtain⟨sA⟩:=sA.fn X G gb;obtain⟨sC⟩:=sC.fn X G rC;obtain⟨sD⟩:=sD.fn X G ny;obtain⟨sE⟩:=sE.fn X G iJ;obtain⟨sF⟩:=sF.fn X G vA;obtain⟨sG⟩:=sG.fn X G HJ;obtain⟨sH⟩:=sH.fn X G AR;obtain⟨sI⟩:=sI.fn X G nz;obtain⟨iN⟩:=iN.fn X G HK;obtain⟨lT⟩:=lT.fn X G AS;obtain⟨iO⟩:=iO.fn X G HL;obtain⟨gX⟩:=gX.fn X G HM;obtain⟨ky⟩:=ky.fn X G vB;obtain⟨gF⟩:=gF.fn X G pB;obtain⟨sJ⟩:=sJ.fn X G rD;obtain⟨sL⟩:=sL.fn X G pC;obtain⟨sM⟩:=sM.fn X G nA;obtain⟨sN⟩:=sN.fn X G pE;obtain⟨sO⟩:=sO.fn X G vC;obtain⟨sP⟩:=sP.fn X G rE;obtain⟨nD⟩:=nD.fn X G gT;cases Xl.symm.trans nD.m;exact⟨_,nD.bt gT,λ_ _ _=>WZ (⟨rF,rG,rH,rJ,rK,nB,rL,rM,rN,rO,rP,rQ,rR,rS,rT,rV,rW,rX,rY,iK,rZ,lG,lH,sd,se,sf,si,sk,sm,lJ,so,sq,lK,nC,lM,gU,lN,lO,kx,lP,lQ,iL,lR,iM,gV,gW,x_ask,su,sx,lS,sy,sA,sC,sD,sE,sF,sG,sH,sI,iN,lT,iO,gX,ky,gF,sJ,sL,sM,sN,sO,sP,nD,Zf X G Xw,Zf X G Xx,Zf X G Xy,Zf X G Xz,Zf X G XA,Zf X G XB,Zf X G XD,Zf X G XE,Zf X G XF,Zf X G XG,Zf X G XH,Zf X G XI,Zf X G XJ,Zf X G XM,Zf X G XN,Zf X G XO,Zf X G XQ,Zf X G XR,nE,aaU X G Xq,cX,aaU X G Xr,lU,aaU X G Xs,jz,aaU X G Xt,gd,aaU X G Xu,aL,aaU X G Xv,bI,pG,nF,vG,vH,pH,lV,⟨AZ,J9.1,J9.2,XS⟩,⟨Ka.1,Ka.2,lM.F.kp⟩,⟨Kb.1,Kb.2,gU.F.kp⟩,⟨Kc.1,Kc.2,lN.F.kp⟩,⟨Kd.1,Kd.2,lO.F.kp⟩,⟨Ke.1,Ke.2,kx.F.kp⟩,⟨Kf.1,Kf.2,lP.F.kp⟩,⟨Kg.1,Kg.2,lQ.F.kp⟩,sR,sS,vI,sT,M4 XT XU XX XW,XY,XZ,⟨_,aaU X G X2⟩,⟨_,aaU X G X3⟩⟩:Tx K mg)⟩
theorem walk{l:aec}{q:Zy}{loose:List Str}{XP:(Str->Option YB)->aa4->Prop}{YP:aaa->aa4->Prop}{d:DefRec}{K:Params->Yu}(hn:l.most=some 63)(yc:d.params.defaults=[])
 (hY:∀ (w:aaa) (h:aa4),YP w h->(K w.params).In h)
 (F:∀ (w:aaa) (mg:Str->Option YB) (fa:YN) (h:aa4),(K w.params).In h->h.Ns Y9 mg->mg d.name=some (.ref fa) ->
   ∃ fd:abD,(∀ (s:YK) (u:YB),afg s fd ⟨[u],[]⟩ [("_law_script",u)])/\∀ base:aa4,(K w.params).In base->base.Ns Y9 mg->dC l.prog w (K w.params) mg base (de l.prog w) 37 fa fd ["_law_script"] (v5 (K w.params))) :
 agI q loose XP YP l.row.toRowW d [] (λf vs=>PySem.call f vs) :=
 Gz.OF (k:=37) (x := "_law_script") (CX:=λw=>de l.prog w) (sp:=λw=>v5 (K w.params)) hn yc ⟨rfl,by decide,by decide⟩ hY F (λ_ _ a ns hl hS=>⟨a,ns,rfl,hS,hl,λ_=>rfl⟩) λ_ _ _ _ _ z=>C5 z
end zv
local macro_rules | `(tactic| walk_at "f") => `(tactic| (refine' Gz.Fb.mk ?y1 ?y2 ?y3 ?y4; (case y1 => first | (show _ = _; k_is) | (refine' ⟨?y5, ?y6⟩; (case y5 => k_is); (case y6 => k_is))); (case y2 => k_is); (case y3 => k_is); (case y4 => k_is)))
local macro_rules | `(tactic| walk_at "l") => `(tactic| (refine' L2.fv.mk ?_ ?_ ?_ ?_ <;> k_is))
local macro_rules | `(tactic| walk_at "x") => `(tactic| (refine' Gz.XC.mk ?y1 ?y2 ?y3 ?y4 ?y5 ?y6; (case y1 => k_exc); (case y2 => k_is); (case y3 => k_is); (case y4 => k_is); (case y5 => k_is); (case y6 => k_is)))
namespace PySem.W.Fast
def tw1552982719504397502:=0
def tw9290980349362681072:=0
def tw15145375485823089837:=0
def tw17674851507433181018:=0
def tw15304449463948504176:=0
def tw10223440590537013156:=0
def tw17634267696342547237:=0
def tw12028955665840725070:=0
def tw15345239907304328183:=0
def tw17225062883209078957:=0
def tw4409782339223451645:=0
def tw5967434506642566977:=0
def tw10053963869865174588:=0
def tw4895966665834484014:=0
def tw4291925298363130200:=0
def tw9812853567475208131:=0
def tw4924030513806208393:=0
def tw6503925634126213723:=0
def tw3590733538501464569:=0
def tw12329596713160654423:=0
def tw2922535077484082427:=0
def tw5292022640345298543:=0
def tw16968462915984878015:=0
def tw6837416554937937155:=0
def tw16442970980156136880:=0
def tw1957176472351332428:=0
def tw1207817090342895318:=0
def tw8602637095223064698:=0
def tw16819561639624502271:=0
def tw14085840006933809366:=0
def tw18073111455602153869:=0
def tw2937741799104332766:=0
def tw14351502732651888903:=0
def tw9917287334751019462:=0
def tw12549108296654760052:=0
def tw2368505425810965763:=0
def tw13050681903537568236:=0
def tw2200201405643929117:=0
def tw9351203296869706276:=0
def tw17090745009839615444:=0
def tw14230833492253711494:=0
def tw25139647661226879:=0
def tw6686918552779114198:=0
def tw1146094677654977732:=0
def tw3255987534672602993:=0
def tw4365674037016645691:=0
def tw1686241005575425162:=0
def tw4416307574550313416:=0
def tw13381863359301361945:=0
def tw9701066653502538509:=0
def tw17381360116910954916:=0
def tw901258364580705243:=0
def tw12832749056413892215:=0
def tw16119677447625461696:=0
def tw16418700074332820941:=0
def tw525337732199855050:=0
def tw800485435199656778:=0
def tw3396296330725738002:=0
def tw17183369265008572837:=0
def tw4031796735707439014:=0
def tw17972894430631683958:=0
def tw17964570170000483815:=0
def tw16051117606467418866:=0
def tw11430684289022234283:=0
def tw1276267201206812403:=0
def tw3812050212638972755:=0
def tw5934776819492604342:=0
def tw10881179407727497025:=0
def tw14347917612332250169:=0
def tw15222231430206455584:=0
def tw14020243434701777874:=0
def tw737564819369850161:=0
def tw11967403898641863291:=0
def tw8283077572878234094:=0
def tw16244022518588831227:=0
def tw16779544933040788763:=0
def tw9075033204157423548:=0
def tw12111934821925740378:=0
def tw13511555486193364238:=0
def tw4515872652580874976:=0
def tw8769603344632449572:=0
def tw14477251498946037424:=0
def tw15397792976962891425:=0
def tw10268447525097566664:=0
def tw13786497376804351672:=0
def tw7769572484296745500:=0
def tw10528918339014890202:=0
def tw4675564423238548080:=0
def tw10147222579623869763:=0
def tw8229712481512623300:=0
def tw11258398512336051562:=0
def tw15010633856469546853:=0
def tw12394814388449485605:=0
def tw11785843192232999607:=0
def tw11542355540968637308:=0
def tw3795172517646895089:=0
def tw6903892017764389511:=0
def tw14378468915323071590:=0
def tw2944519261090275686:=0
def tw13506989713092392863:=0
def tw14829531996823731250:=0
def tw10835545806230230697:=0
def tw4501741557969847439:=0
def tw14087893311762912218:=0
def tw4966707587891762071:=0
def tw15002636468527985636:=0
def tw8390999762470005465:=0
def tw17940526615249088155:=0
def tw4048055118601786454:=0
def tw10083872575104954937:=0
def tw9645158061694032495:=0
def tw8311517944022809369:=0
def tw10495537295786864625:=0
def tw4027902391491425796:=0
def tw673628258878435426:=0
def tw14653464964519038528:=0
def tw2860512640933077968:=0
def tw17094574383170392227:=0
def tw9634610223742377473:=0
def tw13873485513092492956:=0
def tw362395760513639953:=0
def tw1124380111425515864:=0
def tw15843849753870857406:=0
def tw7599311093378890885:=0
def tw7164561229536286480:=0
def tw4110417237825308028:=0
def tw3592601741251250536:=0
def tw5148089179657380569:=0
def tw4546513376679150565:=0
def tw17621496395184690597:=0
def tw17407702494433093704:=0
def tw17636402816601149434:=0
def tw14692330993359178297:=0
def tw11986135511964393287:=0
def tw12020614804665093913:=0
def tw14940307214847892393:=0
def tw17706011117045189298:=0
def tw16472717414395846555:=0
def tw13011537668235238873:=0
def tw14831442874742192706:=0
def tw662649280272807267:=0
def tw11607363125765204941:=0
def tw5675846856833760615:=0
def tw4682412713013640924:=0
def tw1278141743356264562:=0
def tw1391902302364205812:=0
def tw2963290406030580608:=0
def tw6268805915889187421:=0
def tw9484599328602957595:=0
def tw10048509417252035559:=0
def tw9094747512938045654:=0
def tw14036078504130393745:=0
def tw1976310355664101177:=0
def tw15225777919197450689:=0
def tw16394402957878971739:=0
def tw950322431351944596:=0
def tw436306329423395495:=0
def tw4930847706854352559:=0
def tw18347043337071283582:=0
def tw11867052865670135601:=0
def tw17970079316112634267:=0
def tw13458474277914567973:=0
def tw13889688788703642208:=0
def tw4040962326886463892:=0
def tw11592458454584425495:=0
def tw17407666917824535924:=0
def tw3228455221116886966:=0
def tw1676018479377230648:=0
def tw730694842293798522:=0
def tw2527971991235121664:=0
def tw17915808321217020748:=0
def tw18241752055855526355:=0
def tw7882301835599480768:=0
def tw17525780342044697483:=0
def tw90841739405101232:=0
def tw13884359024971896028:=0
def tw390206574059759006:=0
def tw14381823274679888777:=0
def tw12005634202532813498:=0
def tw10984576847525184954:=0
def tw8387035015806029054:=0
def tw8012627775617554011:=0
def tw5099001460920061471:=0
def tw17732371436083767869:=0
def tw5883567927653132309:=0
def tw12578349002917248002:=0
def tw5900580905193857547:=0
def tw12338563949308978903:=0
def tw6494941958894387846:=0
def tw4929429032748403665:=0
def tw17546090869878055654:=0
def tw4183064445010130921:=0
def tw612399762805048469:=0
def tw17888253371811910696:=0
def tw14033376808234829391:=0
def tw14923757928604365268:=0
def tw10151816585272397752:=0
def tw1722036778938121689:=0
def tw2536250350249915892:=0
def tw3175073764752743121:=0
def tw12403988863697061679:=0
def tw18082017943505239041:=0
def tw11657863351595984600:=0
def tw6174542066899648887:=0
def tw5552556518184084513:=0
def tw10683189647914202065:=0
def tw676789883893917615:=0
def tw6614227846960845385:=0
def tw11523285440705893296:=0
def tw7339975157298474985:=0
def tw5419421313603167511:=0
def tw15681689134601384880:=0
def tw13437234921527900631:=0
def tw2320342648010864780:=0
def tw13136016258973539175:=0
def tw714207899434399097:=0
def tw5391922014405057674:=0
def tw4637796675007604560:=0
def tw2751872261474617782:=0
def tw7138165168276982865:=0
def tw2892018536243247190:=0
def tw13149403135134936112:=0
def tw6764586117019061927:=0
def tw9600691310233360560:=0
def tw15028662078473862273:=0
def tw5478865751054718457:=0
def tw16976983048868438678:=0
def tw16085517492339849953:=0
def tw9612532714876324345:=0
def tw13545645714570538747:=0
def tw17015583962907833517:=0
def tw10606409499341028169:=0
def tw7257360424310663951:=0
def tw13348786969198864805:=0
def tw17144719210971364600:=0
def tw4003283232371102193:=0
def tw4710080794638889105:=0
def tw5201403841327381574:=0
def tw9193037622841310529:=0
def tw12092465800308017285:=0
def tw3799566192564436236:=0
def tw15118252002114833772:=0
def tw861122331308606653:=0
def tw1629904969120486068:=0
def tw9549074196005126169:=0
def tw3577335288269987173:=0
def tw6878284928933533950:=0
def tw2806518332771729822:=0
def tw7615357816594450825:=0
def tw11647008977318929156:=0
def tw17955549729951164683:=0
def tw564710340234984917:=0
def tw4916623940361048158:=0
def tw11539517785998204003:=0
def tw4915284919246272198:=0
def tw11119001794870539502:=0
def tw8150678983081481552:=0
def tw9081893764707894572:=0
def tw18309635213235730282:=0
def tw984067114183707189:=0
def tw7589738322534639750:=0
def tw12480965345718444729:=0
def tw17571727950417134188:=0
def tw14895982701539681231:=0
def tw12947636786589204544:=0
def tw2134800929082938679:=0
def tw5349002044418599253:=0
def tw7510037437752417408:=0
def tw6490017234819081726:=0
def tw15144611005278919292:=0
def tw1174197964979590136:=0
def tw8670187664499455347:=0
def tw6068278255126527198:=0
def tw12114303990704489979:=0
def tw2753082980787356607:=0
def tw11533260215160363314:=0
def tw12065836483870458158:=0
def tw1521967115259494768:=0
def tw12826966864198032499:=0
def tw3176092954078178591:=0
def tw8929646436991187222:=0
def tw16002877148550606318:=0
def tw1079193818793443063:=0
def tw8896048977940974660:=0
def tw16356576298358467578:=0
def tw16732295033829526788:=0
def tw3126909401523997609:=0
def tw12392107049258106302:=0
def tw8632099693909246333:=0
def tw11362234310328219590:=0
def tw5819331176958791110:=0
def tw18437366587588945898:=0
def tw1106773301833471060:=0
def tw8677853282704590097:=0
def tw3379053788034777411:=0
def tw15233182265033309493:=0
def tw10990168749398575210:=0
def tw2742717573596451221:=0
def tw18391124757204919515:=0
def tw10339026823386787339:=0
def tw7129391195326580336:=0
def tw3376246123668150186:=0
def tw1284299363311753017:=0
def tw11902315695972071997:=0
def tw17311900301627461769:=0
def tw7353531866906075224:=0
def tw3762173477042787311:=0
def tw8784002511421020859:=0
def tw14456075543001750527:=0
def tw511476387608858430:=0
def tw1213536521724285455:=0
def tw2479396169584734060:=0
def tw6828132419510947496:=0
def tw14574584471498297563:=0
def tw10242298647737923937:=0
def tw15408541272068747153:=0
def tw657485538540800584:=0
def tw235594117869205132:=0
def tw11328327320149369952:=0
def tw5548604787581845791:=0
def tw6595888382747771204:=0
def tw5807465961022797305:=0
def tw15054798970407306170:=0
def tw16199585734128525470:=0
def tw17247277361880179258:=0
def tw12191798019337125981:=0
def tw17753656787452968460:=0
def tw3633192290999369046:=0
def tw862835265748125377:=0
def tw13254407348024731270:=0
def tw2852851436884782524:=0
def tw10765214689722907462:=0
def tw7772080127330122967:=0
def tw16267516948654142235:=0
def tw12933572925072329836:=0
def tw9367744142806748344:=0
def tw7788367889543610751:=0
def tw5453173984617549032:=0
def tw17980673019987764415:=0
def tw14095341728771308828:=0
def tw2253017964851637266:=0
def tw3000499263006492747:=0
def tw13038295170555008930:=0
def tw7165827368208028225:=0
def tw8699701051090656352:=0
def tw16634257973266462405:=0
def tw6389301893513489767:=0
def tw18213474561158689774:=0
def tw11079401037644291650:=0
def tw16586448651830524288:=0
def tw10878308765386583460:=0
def tw3129495807678188578:=0
def tw13292249594711143016:=0
def tw12896906616796768238:=0
def tw5221688404522646189:=0
def tw4677313339564570405:=0
def tw2348339805126257997:=0
def tw15507387442903078608:=0
def tw10689867815636117665:=0
def tw5059863067626124031:=0
def tw559016744379762296:=0
def tw6303554500514480568:=0
def tw6151275834387782207:=0
def tw14075873309658883549:=0
def tw7405735767315263164:=0
def tw16368593440515842117:=0
def tw1236711442593550233:=0
def tw9689673305090439061:=0
def tw6134937674222601256:=0
def tw13543523470702071668:=0
def tw1609653621899819812:=0
def tw7608087879864678769:=0
def tw4243637896694333825:=0
def tw8029166059518722879:=0
def tw2704304531113231302:=0
def tw366300277613887756:=0
def tw16570460253048757306:=0
def tw5132519431763464484:=0
def tw12713229525463691424:=0
def tw1958655821915043346:=0
def tw7383478250652828468:=0
def tw3196387671508831187:=0
def tw16172322301563584679:=0
def tw13872872024465036889:=0
def tw7914866711594438543:=0
def tw14705957155742772005:=0
def tw13956016955938625864:=0
def tw5810686742204102143:=0
def tw1016221589417632937:=0
def tw14982825934935962951:=0
def tw1792152508385203170:=0
def tw14395295293091227524:=0
def tw14517240812492822965:=0
def tw12653906852682739944:=0
def tw15095565869229559083:=0
def tw10318017857919205706:=0
def tw6496275376212048033:=0
def tw8318572335661814671:=0
def tw15309472641172508027:=0
def tw428962221892729022:=0
def tw10101332523867415693:=0
def tw13832854542394031998:=0
def tw16399733791861378453:=0
def tw17404182596477439496:=0
def tw1648598934300042264:=0
def tw2874004641518959571:=0
def tw3919282032653698841:=0
def tw15110596502710607379:=0
def tw5860693334156065163:=0
def tw16193270197332750448:=0
def tw13932365362559227327:=0
def tw5249911823344209203:=0
def tw7290645979941931137:=0
def tw3454849683920203332:=0
def tw2537348898972876779:=0
def tw3175298763557802826:=0
def tw17496849387770431612:=0
def tw9693750133333821759:=0
def tw5271664325521298488:=0
def tw16912731161096378938:=0
def tw13032655564085790390:=0
def tw3066692023762736057:=0
def tw588589192962183404:=0
def tw4599963204674221419:=0
def tw15057976150907847240:=0
def tw18248663872182739769:=0
def tw62023244993874814:=0
def tw3241260477414621438:=0
def tw11891649520252194290:=0
def tw10684716103943463494:=0
def tw4011480206954249080:=0
def tw4268219586186861274:=0
def tw16295436030103916969:=0
def tw14041743661464012195:=0
def tw726586697508838267:=0
def tw16529312378313568492:=0
def tw13410836558793662601:=0
def tw13271290107393784317:=0
def tw12819282604966344575:=0
def tw18220888233747988432:=0
def tw13425249433474087990:=0
def tw14827110534357288842:=0
def tw15209880175811245603:=0
def tw6883266546903476766:=0
def tw6063360280878986354:=0
def tw16686679762443083873:=0
def tw7825913093552426669:=0
def tw3654528863079754627:=0
def tw17539106814123566554:=0
def tw3181432941838233361:=0
def tw1363037031078390080:=0
def tw11442253116839867527:=0
def tw17119926855508426258:=0
def tw853099320328164820:=0
def tw710483652937771951:=0
def tw2339728763659372807:=0
def tw7666454782188808036:=0
def tw4270880637126608015:=0
def tw8801770110959545025:=0
def tw12152065706864808064:=0
def tw2746680875725764497:=0
def tw1330926889734858128:=0
def tw16189016938938531700:=0
def tw2102014243916708602:=0
def tw16674198760217812424:=0
def tw6512571665040915809:=0
def tw5679301162823816136:=0
def tw14399741122878527924:=0
def tw10826143398632337169:=0
def tw8278203281887296256:=0
def tw2215767361977174001:=0
def tw12562071606823484806:=0
def tw16248932264778332111:=0
def tw7942814187486549540:=0
def tw8875879847359792792:=0
def tw7703607118637604365:=0
def tw16379794647532352354:=0
def tw4221545301925840746:=0
def tw8337282124547369751:=0
def tw8223333166120761383:=0
def tw13851108746826191748:=0
def tw11067326509849467848:=0
def tw5926327356288638393:=0
def tw457643163828315948:=0
def tw10329168766839582767:=0
def tw15510510288433850015:=0
def tw9744561964995278564:=0
def tw12156861289900907708:=0
def tw5414217046895220238:=0
def tw17471356633140337731:=0
def tw8734230314752989092:=0
def tw9535681799701139870:=0
def tw11777450180331150302:=0
def tw12576044659817550461:=0
def tw13289767160531515018:=0
def tw8337949989134520592:=0
def tw1656926186290534511:=0
def tw10541732843621117778:=0
def tw5109675688813549499:=0
def tw7982143564730612093:=0
def tw18134846861545702260:=0
def tw9984036763050051629:=0
def tw4945466527861965889:=0
def tw15034339609453966234:=0
def tw14941131821914543033:=0
def tw3616702453228731116:=0
def tw17452655302817430499:=0
def tw8856949164876148629:=0
def tw3601847500329273743:=0
def tw9424971555165999155:=0
def tw4338687532101544773:=0
def tw13192577053596849068:=0
def tw8422210021493132118:=0
def tw1085452271182972306:=0
def tw3682099090620132209:=0
def tw14743051195148335616:=0
def tw13975671924653018500:=0
def tw822713511570380927:=0
def tw8734129604021964942:=0
def tw11644123410942476388:=0
end PySem.W.Fast
open PySem PySem.W PyProof.Rows
set_option maxRecDepth 100000 in
set_option maxHeartbeats 0 in
theorem PySem.Challenge.cw_gaze_k74_drawings_holds : PySem.Challenge.rw_gaze_k74_drawings.Holds := by
 w_on;o_law;k_head;(case hw=>w_witness2)
 k_fill
 refine zv.walk (l:=PySem.Challenge.rw_gaze_k74_drawings) rfl rfl (λw h Y=>PySem.W.kIn_of Y) ?F
 case F =>
  intro w mg fa h KX G X4;refine' zv.Xk KX G X4 ?_ ?_ ?_ ?_ ?_ ?_ ?_ ?_ ?_ ?_ ?_ ?_ ?_ ?_ ?_ ?_ ?_ ?_ ?_ ?_ ?_ ?_ ?_ ?_ ?_ ?_ ?_ ?_ ?_ ?_ ?_ ?_ ?_ ?_ ?_ ?_ ?_ ?_ ?_ ?_ ?_ ?_ ?_ ?_ ?_ ?_ ?_ ?_ ?_ ?_ ?_ ?_ ?_ ?_ ?_ ?_ ?_ ?_ ?_ ?_ ?_ ?_ ?_ ?_ ?_ ?_ ?_ ?_ ?_ ?_ ?_ ?_ ?_ ?_ ?_ ?_ ?_ ?_ ?_ ?_ ?_ ?_ ?_ ?_ ?_ ?_ ?_ ?_ ?_ ?_ ?_ ?_ ?_ ?_ ?_ ?_ ?_ ?_ ?_ ?_ ?_ ?_ ?_ ?_ ?_ ?_ ?_ ?_ ?_ ?_ ?_ ?_ ?_ ?_ ?_ ?_ ?_
  rotate_left 9
  iterate 6 k_is
  iterate 72 walk_at "f"
  iterate 18 k_is
  walk_at "l"
  iterate 8 k_is
  iterate 4 walk_at "x"
  iterate 4 k_is
  iterate 2 kit_is
  iterate 2 k_is
#print axioms PySem.Challenge.cw_gaze_k74_drawings_holds
