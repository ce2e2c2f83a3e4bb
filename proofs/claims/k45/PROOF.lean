import PyProof.Rows.All
import Wide.All
import OpenK.AllK
import Wide.FinOn
import Lean
import PyProof.EqAt
import PyProof.EqKinds
import PyProof.TupleCall
import KE.KSortAsk
import KE.KSortTup
import KE.KRevIter
import KE.LcSums
import KE.KDictSum
import KE.KDictList
import PyProof.AttrMissHeap
import PySem.Challenge.RW_gaze_k45_whole_asked_about_a_claim
set_option Elab.async false
set_option linter.all false
set_option maxRecDepth 100000
set_option maxHeartbeats 4000000
set_option exponentiation.threshold 2000
open PySem renaming wpAny_bind → ak1, Value → ak3, wpAny_pure → ak6, Shared → ak7, Addr → ala, mainGlobals → ale, Program → alr, wpAny → alu, FuncData → alB, sizeLine → alI, starEach → alM, World → alS, lookup_relabel_local → alX, Around → alY, codeAny_builtin → alZ, wpAny_holding → al6, bootBuiltins → amb, wpAny_mono → amc, wpAny_newObj_type → amd, wpAny_truthy_bool → amh, plainId_quiet → aml, wpAny_updateSeq → amq, wpAny_call_entry → amr, wpAny_tryCatch → ams, intItems → amB, wpAny_callSpecial?_slot → amC, compareOp → amD, Heap → amH, wpAny_seqItems → amJ, wpAny_letGo → amP, wpAny_Call_Name_kw → amW, sysModules → am2, Expr → am7, tupleKind_room_in1 → am9, wpAny_typeNameOfWhole_keyiter → anb, wpAny_dictEntries → anh, sizeLine_eq → anj, mem_of_lookup → ank, DictEntry → anl, argBest → anm, behindInMarks → ant, pyNext → anu, wpAny_missedRemoval_other → anB, Stmt → anD, wpAny_typeNameOf_keyiter → anF, PyData → anH, backTo → anQ, codeAny → anR, letOwnedTupleGo → anV, Builtin → an0, size_of_entries → an2, builtinLookup_eq_fast → an3, attributeBase → an5, wpAny_rule → an8, SetTable → aoa, seqItems? → aoe, wpAny_fieldsOf → aog, binaryOp → aok, wpAny_isInstance → aon, wpAny_askSetting → aoo, sliceBounds → aop, wpAny_comprehension_free → aos, wpAny_passesOwn → aot, updateSeq → aov, wpAny_attempt → aox, wpAny_ite_split → aoz, rawInt → aoB, intKind → aoH, foldedSetIterable → aoI, richCompare → aoM, wpAny_setState_of → aoR, wpAny_setField → aoT, codeAny_mono → aoX, wpAny_isOneOf_keyiter → ao0, tupleKind → apa, wpAny_specialOf → apd, wpAny_of_eq → apf, typeLookup_type → apk, wpAny_setEntries_of → apl, wpAny_field → apn, Scope → apo, cLine → apr, compEnvC → apy, wpAny_setField_rec → apB, hashInt → apD, firstArgMember → apG, assignEach → apN, Result → apQ, wpAny_getItem_list_slice → apS, call_meets → apT, list_append → apU, wpAny_pyIter_enum → apX, wpAny_pyIter_slot → apY, keywordEach → ap3, wpAny_newList → ap8, wpAny_eqBool_int → aqa, wpAny_pyNext_range_end → aqh, wpAny_pyIter_rangeiter → aqi, numAt → aql, codeAny_compStart_list → aqm, wpAny_pyNext_enum_item → aqn, wpAny_isTrue_Compare1 → aqw, wpAny_execs_nil → aqx, swapsWith → aqy, wpAny_pyNext_enum_end → aqG, wpAny_notOrdered_dict → aqJ, wpAny_dictEpoch → aqL, NameKind → aqS, codeAny_call_builtin → aqV, wpAny_newFunctionEnv → aqW, wpAny_pyIter_revIter → aqX, wpAny_pyIter_keyiter → aq0, argsOk → aq3, isSubtype_stop → aq4, wpAny_newTuple → aq6, isSubtype_type → aq7, IsRangeIter → ara, atKey → arb, intItems_at → ard, call_enumerate_list → arf, GenState → ark, wpAny_standAt → aro, wpAny_pyIter_tuple → arp, wpAny_pyIter_range → arq, evalPart_none → ars, wpAny_tupleItemsOf → arw, entryOfKey → arA, wpAny_pyIter_list → arB, wpAny_call → arE, Keyword → arF, typeLookup → arG, valueAt → arI, Within → arR, seqIndex_neg → arU, wpAny_execs_cons → arW, checkBuiltinCall → ar0, wpAny_pyIter_zip → ar4, backToKw → asf, setField → ash, getMethod → asj, BindsTo → asl, getItem → asn, seqIndex_of → aso, slicePick → asq, callerA → asr, notedBy → asy, codeAny_of_tree → asE, builtinsNs → asM, isTrue → asN, wpAny_Name → asO, typeIs_int → asQ, setsByText → asT, CmpOp → asV, standAt → asW, entryFor → asZ, newList → as0, newTuple → as2, Paired → as7, pyIter → as8, lastMarks → as9, pickOrder → ati, bindL → atm, bindC → atn, setNext → ato, Fin → atp
open PySem.W renaming Frag → ak2, keepIn → alc, codeIn → ald, nsIn → alf, fnOf → alh, mg_of → ali, findIn → alE, mg_none_of → al2, kia_one → amI, emptyDict → amR, kitOne → amV, isFn → ane, instObj → ani, mroIn → an6, plainGet → aol, hasDictIn → aoJ, plainGet_of → apb, callWith_K → apv, lookIn → apF, methodObj → apM, plainOver → apP, cellsFrom_some → aqj, hideAll → aqu, takerIn → aqz, makesIn → aqA, methodCall_KW → aqB, OpenLaw → aqH, KdlSrc → aq5, hideAll_get → aq9, of_hideAll → arj, excIn → ary, kitx_list → arC, kitx_dict → arD, handedIn → arX, kas_sort → ar7, kas_item → ar8, kat_snds → ar9, kitMeta → asu, kas_ask → asB, kat_run → asC, WalkO → as1
open List renaming getD_eq_getElem?_getD → ak4, length_map → ak8, getElem?_eq_getElem → ak9, getElem?_eq_some_iff → alj, mem_cons → alk, size_toArray → alo, mem_append_right → alq, mem_of_getElem? → alx, length_singleton → aly, getElem?_map → alz, length_append → alD, mem_map → alF, map_cons → alH, mem_append → alK, length_range → alN, mem_singleton → alP, mem_cons_of_mem → alT, nil_append → al3, range → al4, getElem?_append_left → al7, length_filter_le → al8, mem_filter → ama, not_mem_nil → ame, filter_cons → amg, getElem?_append_right → amk, length_cons → amn, nodup_cons → amo, drop_eq_getElem_cons → amt, filterMap_cons → amx, length_reverse → amy, all_eq_true → amA, mem_append_left → amE, take_succ → amK, any_cons → amN, take_length → amO, getElem?_range → amQ, take_append_drop → amT, find?_cons → amX, length_eq_zero_iff → amY, toArray → am0, map_append → am3, getElem?_eq_none → am4, mem_iff_getElem? → am6, mem_cons_self → am8, pairwise_cons → ana, getElem?_cons_succ → anc, getElem?_reverse → anv, mem_range → anx, pairwise_iff_getElem → anA, map_map → anI, map_congr_left → anN, getElem_of_mem → anO, lookup → anY, length_nil → anZ, replicate → aod, getElem?_replicate → aou, drop_of_length_le → aoD, reverse_cons → aoL, append_assoc → aoO, ext_getElem? → aoP, nodup_nil → aoU, length_take → ao2, getElem_mem → ao3, any_eq_true → ao4, pairwise_append → ao8, toList_toArray → apm, mem_filterMap → apu, map_nil → apw, mem_drop_iff_getElem → apI, mem_take_iff_getElem → apJ, findIdx?_eq_none_iff → apK, any_eq_false → apO, foldl_append → apZ, length_erase_of_mem → ap0, eraseIdx_cons_succ → ap7, length_drop → aqb, ext_getElem → aqd, getElem?_set_self → aqg, take_of_length_le → aqo, drop_eq_nil_of_le → aqp, length_pos_of_mem → aqr, of_mem_zip → aqC, length_replicate → aqD, getElem?_toArray → aqN, getElem?_set_ne → aqU, mem_erase_of_ne → aq2, filter_eq_self → arh, filter_sublist → ari, push_toArray → arL, nodup_append → arP, reverse_perm → arQ, map_id' → arV, cons_append → arZ, drop_length → ar2, map_snd_zip → ar6, perm_middle → asa, map_reverse → asd, mem_reverse → ase, append_nil → asm, length_set → asp, foldl_cons → asv, getD → asG, all_cons → asX, findIdx? → as4
open PySem.Heap renaming get?_push_of_some → ak5, lt_size → alb, get?_update_other → alg, get?_push_size → aln, get?_update_self → alO, size_push → anz, ExtBut → asz
open Nat renaming le_refl → alm, le_trans → alp, zero_le → alv, ne_of_lt → alA, lt_of_lt_of_le → alC, lt_of_le_of_lt → al9, ne_of_gt → amj, lt_irrefl → amL, not_lt_zero → am5, lt_succ_of_lt → aob, lt_succ_self → aom, le_succ → aoK, le_of_lt_succ → aoQ, le_of_lt → aoW, lt_of_succ_lt_succ → aqs, sub_self → aqR, mod_lt → aqT, lt_trichotomy → arM, le_succ_of_le → arO, le_of_not_lt → arY, succ_ne_self → asb, le_add_left → asH, le_of_eq → ata, add_zero → atd, lt_trans → ate, add_comm → atg, zero_add → atj
open Or renaming inl → als, inr → ass
open Bool renaming false_eq_true → alw, false_ne_true → alG, and_eq_true → amM, eq_iff_iff → anW, or_eq_true → aow, false_and → apE, and_self → ap6, not_true → arv, true_and → arx, and_false → asJ, not_false → asK, false_or → asY
open PySem.Value renaming ref → alJ, isInt → aoE, bool → aoF, type → aoG, float → asi, isStrOf → asU, bytes → atk
open PySem.Around renaming under_plainId → alL, under → arT
open PySem.F renaming plain_min_loop → alQ, plainAttrs_list → al0, plain_max_loop → amu, slot_list_append → amv, type_list_append → amw, entry_min_loop → amG, slot_dict_keyiterator_next → amU, slot_enumerate_next → anq, plain_extend_loop → anC, entry_max_loop → anS, args_dict_keyiterator_next_1 → aof, entry_dict_keyiterator_next → aoq, slot_list_index → aoA, args_enumerate_next_1 → ao5, args_list_append_2 → ao7, entry_enumerate_next → ao9, entry_list_append → apc, excBase_ValueError → aps, slot_list_append → apx, entry_extend_loop → apL, type_list_index → ap9, slot_dict_iter → aqq, slot_dict_pop → aqK, slot_dict_len → aqM, plain_set_new → aqO, slot_tuple_lt → aqQ, plain_min → arJ, entry_min → arK, kind_min → ar1, slot_set_iter → asF
open Option renaming map_eq_some_iff → alR, isSome_iff_exists → amS, isNone → aoc, ne_none_iff_exists' → apt, isSome_map → apV, getD_some → aqe, toList_some → art
open PySem.PassesOwn renaming never → alU
open Array renaming getElem?_eq_getElem → alV, length_toList → anJ, getElem?_eq_none → anT, getElem?_toList → ao1, getD_eq_getD_getElem? → ape, getD → apW, toArray_toList → aq1, append_assoc → arl, toList_push → arN, toList → arS, toList_inj → ar5
open PyProof.Rows renaming callWith_type1 → alW, seqObj → am1, envOfC → anr, listUpdate_at → aoy, callWith_builtin1 → aoY, get?_update_seq → aph, seqEpoch_at → api, kindOf → apR, IntsAre → ap4, subscriptTail → ap5, subscriptTail_builtinR → aqk, AllBare → aqv, mirror_perm → arc, Constant_none → arn, Subscript_ → arH, list_sort_plain → asA, entry_list_sort → asD, mulOk_of_bits → asI, boot_range → asP, bits_add → atb, bits_mul → atc, Call_ → atl
open Int renaming toNat_natCast → al1, le_refl → amF, toNat_of_nonneg → anP, emod_lt_of_pos → apz, zero_add → apC, le_trans → aqE, le_antisymm → aqF, emod_nonneg → aqI, toNat → aqP, mul_nonneg → aq8, ediv_le_self → ar3, ediv_nonneg → asw, mul_le_mul → asL, ediv_one → atf
open Ne renaming symm → al5
open PySem.Builtin.Range renaming rangeSize → amf, rangeFitsLong → asx
open PySem.Obj renaming mapSeq → ami, mapFields → an9, data_mapDictKeys → aqZ, data_mapFields → aru, putSet → asS
open PySem.Heap.SameBut renaming update → amm
open PySem.Builtin.Builtins renaming bindParams → amz
open PySem.PyData renaming eqv → amZ, eqvAll → anL, canLayAll0 → aoN, canLay0 → aoS, depthAll → apg, strOk → apA
open PySem.Str renaming ofString → anf
open PyProof.Rows.F renaming plain_set_update_loop → ang, entry_set_update_loop → aoj
open PySem.Builtin.List renaming listExtendWith → ano, listLengthHint → an4, listSameRef → ap1, listItems → aqt, listUpdate → as5, listTouch → as6
open PySem.SetTable renaming runEnd → anp, leap → anw, insertAt → anG, Probe → aoV, turns → apH, advance → aqf, slot → as3, has → ath
open False renaming elim → ans
open True renaming intro → anE
open PySem.Builtin.Int renaming intBits → anK
open PySem.W.WData renaming weightAll → anM, layable → aoZ, weight → aqY, layableAll → asR
open PySem.Calls renaming spliced_cons → anU, spliced_nil → an7, call_function_entry → aoh, callWith_builtin → aoC, evalArgs_plain → ao6, Name_function_global → apq
open ForInStep renaming yield → an1
open Classical renaming byContradiction → aoi
open PySem.Builtin.SmallTypes renaming ownedTupleIsFree → aor
open List.cons renaming injEq → apj
open Sum renaming inl → ap2, inr → arz
open PySem.IsL renaming update → aqc
namespace L2
open PySem PySem.Spec PyProof.Rows
noncomputable abbrev Key:=Sum Int Str
noncomputable def nV:Key->ak3->Bool
 | .inl k,v=>aoE k v
 | .inr x,v=>asU x v
noncomputable def RW (w:alS):Key->Int
 | .inl k=>apD k
 | .inr x=>hashStr w x
theorem iX:∀ {k:Key} {v:ak3},nV k v=true->(∃ i t,k=ap2 i/\v=Value.int i t)∨(∃ x t,k=arz x/\v=Value.str x t)
 | .inl i,v,h=>by
  obtain⟨t,e⟩:=Value.isInt_shape (k:=i) (v:=v) h
  exact .inl ⟨i,t,rfl,e⟩
 | .inr x,v,h=>by
  obtain⟨t,e⟩:=Value.isStrOf_shape (x:=x) (v:=v) h
  exact .inr ⟨x,t,rfl,e⟩
theorem RX (i:Int) (t:Tok):nV (.inl i) (.int i t)=true:=by simp[nV,aoE]
theorem RY (x:Str) (t:Tok):nV (.inr x) (.str x t)=true:=by simp[nV,asU]
theorem RZ (a b:Int):decide ((ap2 a:Key)=ap2 b)=(a == b):=by
 by_cases e:a=b
 ·subst e;simp
 ·have h:¬ (ap2 a:Key)=ap2 b:=fun q=>e (Sum.inl.inj q)
  rw[decide_eq_false h]
  exact (beq_eq_false_iff_ne.mpr e).symm
theorem R0 (a b:Str):decide ((arz a:Key)=arz b)=decide (a=b):=by
 by_cases e:a=b
 ·subst e;simp
 ·have h:¬ (arz a:Key)=arz b:=fun q=>e (Sum.inr.inj q)
  rw[decide_eq_false h,decide_eq_false e]
theorem R1 (a:Int) (b:Str):decide ((ap2 a:Key)=arz b)=false:=decide_eq_false (fun q=>nomatch q)
theorem R4 (a:Str) (b:Int):decide ((arz a:Key)=ap2 b)=false:=decide_eq_false (fun q=>nomatch q)
noncomputable def dS (prog:alr) (w:alS):PySem.KeyKind prog w Key where
 is:=nV
 hash:=RW w
 inj:=fun v a b ha hb=>by
  rcases iX ha with ⟨i,t,rfl,rfl⟩|⟨x,t,rfl,rfl⟩
  ·rcases iX hb with ⟨j,u,rfl,e⟩|⟨y,u,rfl,e⟩
   ·injection e with e1 _;rw[e1]
   ·exact nomatch e
  ·rcases iX hb with ⟨j,u,rfl,e⟩|⟨y,u,rfl,e⟩
   ·exact nomatch e
   ·injection e with e1 _;rw[e1]
 byValue:=fun k v h=>by
  rcases iX h with ⟨i,t,rfl,rfl⟩|⟨x,t,rfl,rfl⟩<;>rfl
 pyHash:=fun hv h=>by
  rcases iX hv with ⟨i,t,rfl,rfl⟩|⟨x,t,rfl,rfl⟩
  ·exact wpAny_pyHash_int h
  ·exact wpAny_pyHash_str h
 eqBool:=fun hu hv h=>by
  rcases iX hu with ⟨i,t,rfl,rfl⟩|⟨x,t,rfl,rfl⟩
  ·rcases iX hv with ⟨j,u,rfl,rfl⟩|⟨y,u,rfl,rfl⟩
   ·rw[RZ] at h;exact aqa h
   ·rw[R1] at h;exact SeqAt.EqAt.int_str i t y u _ _ _ _ h
  ·rcases iX hv with ⟨j,u,rfl,rfl⟩|⟨y,u,rfl,rfl⟩
   ·rw[R4] at h;exact SeqAt.EqAt.str_int x t j u _ _ _ _ h
   ·rw[R0] at h;exact wpAny_eqBool_str h
 «strs»:=fun k x t v h=>by
  rcases iX h with ⟨i,u,rfl,e⟩|⟨y,u,rfl,e⟩
  ·exact nomatch e
  ·injection e with e1 _
   subst e1
   cases v<;>rfl
theorem R5 (prog:alr) (w:alS) (i:Int) (t:Tok):(dS prog w).is (.inl i) (.int i t)=true:=RX i t
theorem R6 (prog:alr) (w:alS) (x:Str) (t:Tok):(dS prog w).is (.inr x) (.str x t)=true:=RY x t
end L2
namespace L2
open PySem PySem.Spec PyProof.Rows
inductive V where
 | non|bl (b:Bool)|int (i:Int)|str (x:Str)|byt (b:Array UInt8)|flt (b:UInt64)|ref (a:ala)|ty (n:String)
 deriving DecidableEq
noncomputable def RelV:V->ak3->Prop
 | .non,u=>u=Value.none
 | .bl b,u=>u=aoF b
 | .int i,u=>∃ t,u=Value.int i t
 | .str x,u=>∃ t,u=Value.str x t
 | .byt b,u=>∃ t,u=atk b t
 | .flt b,u=>∃ t,u=asi b t
 | .ref a,u=>u=alJ a
 | .ty n,u=>u=aoG n
noncomputable abbrev Vals:List V->List ak3->Prop:=as7 RelV
theorem Vals.length {xs:List V} {us:List ak3} (r:Vals xs us):xs.length=us.length:=Paired.length r
theorem Vals.get:∀ {xs:List V} {us:List ak3} {i:Nat} {x:V},Vals xs us->xs[i]?=some x->∃ u,us[i]?=some u/\RelV x u
 | _,_,_,_,.nil,e=>by simp at e
 | _,_,0,_,.cons r _,e=>by simp at e;subst e;exact⟨_,rfl,r⟩
 | _,_,i+1,x,.cons _ t,e=>by
  obtain⟨u,h1,h2⟩:=Vals.get (i:=i) (x:=x) t (by simpa using e)
  exact⟨u,by simpa using h1,h2⟩
theorem Vals.set {x:V} {u:ak3} (r:RelV x u):∀ {xs:List V} {us:List ak3} (i:Nat),Vals xs us->Vals (xs.set i x) (us.set i u)
 | _,_,_,.nil=>.nil
 | _,_,0,.cons _ t=>.cons r t
 | _,_,i+1,.cons q t=>.cons q (Vals.set r i t)
theorem Vals.append:∀ {xs ys:List V} {us ws:List ak3},Vals xs us->Vals ys ws->Vals (xs++ys) (us++ws)
 | _,_,_,_,.nil,s=>s
 | _,_,_,_,.cons r t,s=>.cons r (Vals.append t s)
theorem Vals.take:∀ {xs:List V} {us:List ak3} (n:Nat),Vals xs us->Vals (xs.take n) (us.take n)
 | _,_,0,_=>.nil
 | _,_,_+1,.nil=>.nil
 | _,_,n+1,.cons r t=>.cons r (Vals.take n t)
theorem Vals.drop:∀ {xs:List V} {us:List ak3} (n:Nat),Vals xs us->Vals (xs.drop n) (us.drop n)
 | _,_,0,r=>r
 | _,_,_+1,.nil=>.nil
 | _,_,n+1,.cons _ t=>Vals.drop n t
noncomputable def eF:Option V->Option ak3->Prop
 | some v,some u=>RelV v u
 | none,none=>True
 | _,_=>False
noncomputable def KV {κ:Type}:List (κ × V)->List (κ × ak3)->Prop:=as7 fun (p:κ × V) (q:κ × ak3)=>p.1=q.1/\RelV p.2 q.2
noncomputable def kV:Key->V
 | .inl i=>.int i
 | .inr x=>.str x
inductive HO where
 | lst (xs:List V)
 | tup (xs:List V)
 | dK (kvs:List (Key × V))|dT (kvs:List (List Key × V))
 | set (S:Int->Bool) (n:Nat)
 | ins (C dx:ala) (fs:List (Str × V))
 | own (x:ala)
 | xd (fs:List (Str × V))
 | met (f x:ala)
 | gK (lo hi:Int)
 | aX (o:Obj) (u:HO)
 | tbl (ps:Array ak3)
 | ext (φ:amH->Prop)
noncomputable abbrev Hp:=ala->Option HO
noncomputable def upd (H:Hp) (a:ala) (o:HO):Hp:=fun b=>if b=a then some o else H b
theorem au {H:Hp} {a:ala} {o:HO}:upd H a o a=some o:=by unfold upd;rw[if_pos rfl]
theorem aH {H:Hp} {a b:ala} {o:HO} (h:b≠a):upd H a o b=H b:=by unfold upd;rw[if_neg h]
theorem ve {H:Hp} {a:ala} {o u:HO}:upd (upd H a o) a u=upd H a u:=by
 funext b;unfold upd;split<;>rfl
theorem vf {H:Hp} {a b:ala} {o u:HO} (h:H a=some o) (h':H b=some u) (d:o≠u):a≠b:=by
 intro e;subst e;rw[h] at h';exact d (Option.some.inj h')
theorem gL {H:Hp} {a b:ala} {o:HO} (h:H a=some o) (h':H b=none):a≠b:=by
 intro e;subst e;rw[h] at h';cases h'
section
variable (P:alr) (w:alS)
noncomputable def bD (H:Hp) (h:amH) (a:ala):HO->Prop
 | .lst xs=>xs.length<=alI/\∃ (ai:List ak3) (n:Nat),Vals xs ai/\h.get? a=some { cls:=.type "list",data:=.seq ai.toArray n }
 | .tup xs=>xs.length<=alI/\∃ ai:List ak3,Vals xs ai/\IsTup h a ai.toArray
 | .dK kvs=>kvs.length<=alI/\(a == am2)=false/\∃ vs,KV kvs vs/\h.DictOf (dS P w) a vs
 | .dT kvs=>kvs.length<=alI/\(a == am2)=false/\∃ xs:List (List Key × ala × ak3),
  as7 (fun (p:List Key × V) (q:List Key × ala × ak3)=>p.1=q.1/\H q.2.1=some (.tup (p.1.map kV))/\RelV p.2 q.2.2) kvs xs /\
  ∃ o es ep,h.get? a=some o/\o.ExactDict/\o.data = .dict es ep/\es.toList=xs.map (arA (apa (dS P w)))/\(xs.map (·.1)).Nodup
 | .set S n=>h.SetOf (aoH P w) a S n
 | .ins C dx fs=>H dx=some (.own a)/\fs.length<=1000/\dx≠a/\h.get? a=some (ani C dx) /\
  ∃ mA,h.Ns1 dx mA/\(∀ f,eF (fs.lookup f) (mA f))/\arR mA (fs.map (·.1))
 | .own _=>∃ o,h.get? a=some o
 | .xd fs=>∃ mA,h.Ns1 a mA/\∀ f,eF (fs.lookup f) (mA f)
 | .gK lo hi=>∃ t u v,h.get? a=some { cls:=.type "range",data:=.fields #[.int lo t,.int hi u,.int 1 v] }
 | .aX o u=>h.get? a=some o/\bD H h a u
 | .tbl ps=>h.get? a=some { cls:=.none,data:=.fields ps }
 | .met f x=>h.get? a=some (apM (.ref f) (.ref x))
 | .ext φ=>φ h/\(∃ o,h.get? a=some o)/\∀ h1 h2:amH,φ h1->(∀ o,h1.get? a=some o->h2.get? a=some o)->φ h2
noncomputable def bQ (H:Hp) (h:amH):Prop:=∀ a o,H a=some o->bD P w H h a o
end
section
variable {P:alr} {w:alS} {H H':Hp} {h h':amH} {a:ala} {o:HO}
theorem bD.lt (x:bD P w H h a o):a<h.objs.size:=by
 cases o with
 | lst xs=>obtain⟨_,_,_,_,e⟩:=x;exact alb e
 | tup xs=>obtain⟨_,_,_,p⟩:=x;exact p.lt
 | dK kvs=>obtain⟨_,_,_,_,o,_,_,e,_⟩:=x;exact alb e
 | dT kvs=>obtain⟨_,_,_,_,o,_,_,e,_⟩:=x;exact alb e
 | set S n=>obtain⟨o,_,_,_,e,_⟩:=x;exact alb e
 | ins C dx fs=>obtain⟨_,_,_,e,_⟩:=x;exact alb e
 | own y=>obtain⟨_,e⟩:=x;exact alb e
 | xd fs=>obtain⟨_,⟨_,_,_,e,_⟩,_⟩:=x;exact alb e
 | gK lo hi=>obtain⟨_,_,_,e⟩:=x;exact alb e
 | aX ob u=>obtain⟨e,_⟩:=x;exact alb e
 | tbl ps=>exact alb (show h.get? a=some _ from x)
 | met f y=>exact alb (show h.get? a=some _ from x)
 | ext φ=>obtain⟨_,⟨_,e⟩,_⟩:=x;exact alb e
theorem Paired.yz {α β:Type} {F G:α->β->Prop}:∀ {l₁:List α} {l₂:List β},as7 F l₁ l₂->(∀ a b,F a b->G a b)->as7 G l₁ l₂
 | _,_,.nil,_=>.nil
 | _,_,.cons r t,f=>.cons (f _ _ r) (Paired.yz t f)
theorem bD.fI (x:bD P w H h a o) (k:∀ b u,(b=a∨H b=some (.own a))->h.get? b=some u->h'.get? b=some u)
 (ho:∀ b,H b=some (.own a)->H' b=some (.own a)) (ht:∀ b xs,H b=some (.tup xs)->H' b=some (.tup xs)):bD P w H' h' a o:=by
 induction o with
 | lst xs=>obtain⟨z,ai,n,r,e⟩:=x;exact⟨z,ai,n,r,k _ _ (.inl rfl) e⟩
 | tup xs=>obtain⟨z,ai,r,ob,e,c⟩:=x;exact⟨z,ai,r,ob,k _ _ (.inl rfl) e,c⟩
 | dK kvs=>obtain⟨z,y,vs,r,ob,es,ep,e,c⟩:=x;exact⟨z,y,vs,r,ob,es,ep,k _ _ (.inl rfl) e,c⟩
 | dT kvs =>
  obtain⟨z,y,xs,r,ob,es,ep,e,c⟩:=x
  exact⟨z,y,xs,Paired.yz r fun p q z=>⟨z.1,ht _ _ z.2.1,z.2.2⟩,ob,es,ep,k _ _ (.inl rfl) e,c⟩
 | set S n=>obtain⟨ob,es,ep,t,e,c⟩:=x;exact⟨ob,es,ep,t,k _ _ (.inl rfl) e,c⟩
 | ins C dx fs =>
  obtain⟨d,z,ne,e,mA,⟨od,es,ep,e2,c⟩,r⟩:=x
  exact⟨ho _ d,z,ne,k _ _ (.inl rfl) e,mA,⟨od,es,ep,k _ _ (.inr d) e2,c⟩,r⟩
 | own y=>obtain⟨ob,e⟩:=x;exact⟨ob,k _ _ (.inl rfl) e⟩
 | xd fs=>obtain⟨mA,⟨od,es,ep,e,c⟩,r⟩:=x;exact⟨mA,⟨od,es,ep,k _ _ (.inl rfl) e,c⟩,r⟩
 | gK lo hi=>obtain⟨t,u,v,e⟩:=x;exact⟨t,u,v,k _ _ (.inl rfl) e⟩
 | aX ob u ih=>obtain⟨e,q⟩:=x;exact⟨k _ _ (.inl rfl) e,ih q⟩
 | tbl ps =>
  have e:h.get? a=some { cls:=.none,data:=.fields ps }:=x
  show h'.get? a=some { cls:=.none,data:=.fields ps }
  exact k a _ (.inl rfl) e
 | met f y =>
  have e:h.get? a=some (apM (.ref f) (.ref y)):=x
  show h'.get? a=some (apM (.ref f) (.ref y))
  exact k a _ (.inl rfl) e
 | ext φ=>obtain⟨p,⟨o,e⟩,st⟩:=x;exact⟨st _ _ p fun o q=>k _ _ (.inl rfl) q,⟨o,k _ _ (.inl rfl) e⟩,st⟩
theorem bQ.lt (x:bQ P w H h) (e:H a=some o):a<h.objs.size:=(x a o e).lt
theorem bQ.fresh (x:bQ P w H h) (e:h.objs.size<=a):H a=none:=by
 cases q:H a with
 | none=>rfl
 | some u=>exact absurd (alC (x.lt q) e) (amL _)
theorem bQ.kept (x:bQ P w H h) (k:∀ b u,h.get? b=some u->h'.get? b=some u):bQ P w H h':=fun a o e =>
 (x a o e).fI (fun b u _ q=>k b u q) (fun _ q=>q) fun _ _ q=>q
theorem bQ.laid (x:bQ P w H h) (k:∀ b u,h.get? b=some u->h'.get? b=some u) (hp:h.objs.size<=a) (new:bD P w (upd H a o) h' a o):bQ P w (upd H a o) h':=fun b u e=>by
 have hn:=x.fresh hp
 by_cases hb:b=a
 ·subst hb;rw[au] at e;cases e;exact new
 ·rw[aH hb] at e
  exact (x b u e).fI (fun c v _ q=>k c v q) (fun c q=>by rw[aH (gL q hn)];exact q) fun c xs q=>by rw[aH (gL q hn)];exact q
end
noncomputable def Rd (H:Hp) (a:ala) (u:HO):Prop:=H a=some u ∨ ∃ o,H a=some (.aX o u)
theorem Rd.ok {P:alr} {w:alS} {H:Hp} {h:amH} {a:ala} {u:HO} (r:Rd H a u) (x:bQ P w H h):bD P w H h a u:=by
 rcases r with r|⟨o,r⟩
 ·exact x a u r
 ·obtain⟨_,q⟩:=x a _ r
  exact q
noncomputable def rJ:Option HO->Prop
 | some (.lst _)=>True
 | some (.dK _)=>True
 | some (.dT _)=>True
 | some (.set _ _)=>True
 | some (.ins _ _ _)=>True
 | some (.ext _)=>True
 | _=>False
section
variable {P:alr} {w:alS} {H:Hp} {h h':amH} {x e:ala} {o':HO}
theorem bQ.write (ok:bQ P w H h) (mu:rJ (H x)) (he:e=x∨H e=some (.own x)) (k:∀ b u,b≠e->h.get? b=some u->h'.get? b=some u) (nW:∃ u,h'.get? e=some u)
 (new:bD P w (upd H x o') h' x o'):bQ P w (upd H x o') h':=fun b u q=>by
 have JL:∀ c y,H c=some (.own y)->c≠x:=fun c y r z=>by subst z;rw[r] at mu;exact mu
 have R7:∀ c xs,H c=some (.tup xs)->c≠x:=fun c xs r z=>by subst z;rw[r] at mu;exact mu
 by_cases hb:b=x
 ·subst hb;rw[au] at q;cases q;exact new
 ·rw[aH hb] at q
  by_cases il:b=e
  ·have q':H b=some (.own x):=by
    rcases he with z|z
    ·exact absurd (il.trans z) hb
    ·rw[il];exact z
   rw[q] at q';cases q'
   obtain⟨v,hv⟩:=nW
   exact⟨v,by rw[il];exact hv⟩
  ·refine (ok b u q).fI (fun c v hc r=>k c v ?_ r) (fun c r=>by rw[aH (JL c b r)];exact r) fun c xs r=>by rw[aH (R7 c xs r)];exact r
   rcases hc with rfl|hc
   ·exact il
   ·rintro rfl
    rcases he with z|z
    ·exact JL c b hc z
    ·rw[hc] at z;cases z;exact hb rfl
end
structure Un (fs ex:List ala) (H H':Hp) (h h':amH):Prop where
 keep:∀ b o,h.get? b=some o->H b=none->b∉fs->b∉ex->h'.get? b=some o
 slot:∀ b o,h.get? b=some o->H b=none->b∈fs->b∉ex->∃ sl,h'.get? b=some { o with slots:=sl }
 free:∀ b o,h.get? b=some o->H b=none->b∉ex->H' b=none
 there:∀ b o,h.get? b=some o->b∉ex->∃ o',h'.get? b=some o'
 ff:∀ b xs,H b=some (.tup xs)->H' b=some (.tup xs)
 eG:∀ b o u,H b=some (.aX o u)->H' b=some (.aX o u)
 fg:∀ b ps,H b=some (.tbl ps)->∃ more,H' b=some (.tbl (ps++more))
section
variable {fs R8 ex ex':List ala} {H H1 H2:Hp} {h h1 h2 h':amH} {a x e:ala} {o:HO}
theorem Un.any (u:Un fs ex H H1 h h1) {b:ala} {ob:Obj} (q:h.get? b=some ob) (n:H b=none) (hx:b∉ex):∃ sl,h1.get? b=some { ob with slots:=sl }:=by
 by_cases hb:b∈fs
 ·exact u.slot b ob q n hb hx
 ·exact⟨ob.slots,u.keep b ob q n hb hx⟩
theorem Un.kept (k:∀ b u,h.get? b=some u->h'.get? b=some u):Un fs ex H H h h' :=
 ⟨fun b ob q _ _ _=>k b ob q,fun b ob q _ _ _=>⟨ob.slots,k b ob q⟩,fun _ _ _ n _=>n,fun b ob q _=>⟨ob,k b ob q⟩,fun _ _ q=>q,fun _ _ _ q=>q,fun _ ps q=>⟨#[],by rw[q];simp⟩⟩
theorem Un.refl:Un fs ex H H h h:=Un.kept fun _ _ q=>q
theorem Un.laid (k:∀ b u,h.get? b=some u->h'.get? b=some u) (hp:h.objs.size<=a) (hn:H a=none):Un fs ex H (upd H a o) h h' where
 keep:=fun b u q _ _ _=>k b u q
 slot:=fun b u q _ _ _=>⟨u.slots,k b u q⟩
 free:=fun b u q n _=>by rw[aH (alA (alC (alb q) hp))];exact n
 there:=fun b u q _=>⟨u,k b u q⟩
 ff:=fun b xs q=>by rw[aH (gL q hn)];exact q
 eG:=fun b u xs q=>by rw[aH (gL q hn)];exact q
 fg:=fun b ps q=>⟨#[],by rw[aH (gL q hn),q];simp⟩
theorem Un.write (mu:rJ (H x)) (he:e=x∨H e=some (.own x)) (k:∀ b u,b≠e->h.get? b=some u->h'.get? b=some u) (nW:∃ u,h'.get? e=some u):Un fs ex H (upd H x o) h h':=by
 have hx:∀ b,H b=none->b≠x:=fun b n z=>by subst z;rw[n] at mu;exact mu
 have hb:∀ b,H b=none->b≠e:=fun b n z=>by
  subst z
  rcases he with r|r
  ·exact hx b n r
  ·rw[n] at r;cases r
 have hm:∀ b u,H b=some u->¬ rJ (some u)->b≠x:=fun b u q nm z=>by subst z;rw[q] at mu;exact nm mu
 refine⟨fun b u q n _ _=>k b u (hb b n) q,fun b u q n _ _=>⟨u.slots,k b u (hb b n) q⟩,fun b u q n _=>by rw[aH (hx b n)];exact n,fun b u q _=>?_,
  fun b xs q=>by rw[aH (hm b _ q fun z=>z)];exact q,fun b u xs q=>by rw[aH (hm b _ q fun z=>z)];exact q,fun b ps q=>⟨#[],by rw[aH (hm b _ q fun z=>z),q];simp⟩⟩
 by_cases il:b=e
 ·subst il;exact nW
 ·exact⟨u,k b u il q⟩
end
noncomputable def gh (h:amH) (H:Hp):List ala:=(al4 h.objs.size).filter fun a=>(H a).isSome
noncomputable def iY (h:amH) (H:Hp):amH:=aqu h (gh h H)
theorem R9 (h:amH) (H:Hp):(iY h H).objs.size=h.objs.size:=PySem.W.hideAll_size _ _
theorem Sa {h:amH} {H:Hp} {b:ala} {o:Obj} (e:h.get? b=some o) (n:H b=none):(iY h H).get? b=some o :=
 aq9 _ e fun hm=>by
  have q:(H b).isSome=true:=(ama.mp hm).2
  rw[n] at q;simp at q
theorem Sb {h:amH} {H:Hp} {b:ala} {o:Obj} (e:(iY h H).get? b=some o):h.get? b=some o/\H b=none:=by
 have e':h.get? b=some o:=arj (gh h H) e
 refine⟨e',?_⟩
 cases q:H b with
 | none=>rfl
 | some x =>
  have hm:b∈gh h H:=ama.mpr ⟨anx.mpr (alb e'),by simp[q]⟩
  have z:(iY h H).get? b=none:=PySem.W.hideAll_none (gh h H) hm
  rw[z] at e;cases e
noncomputable def Sd (g h:amH) (L:ala):List (ala × Obj):=(al4 h.objs.size).filterMap fun a=>if a=L∨(g.get? a).isSome=true then none else (h.get? a).map fun o=>(a,o)
noncomputable def rest (g h:amH) (L d:ala):List (ala × Obj):=(Sd g h L).filter fun p=>decide (p.1≠d)
end L2
namespace L2
open PySem PySem.Spec PyProof.Rows
structure Mod (K:ak2) (mg:Str->Option ak3) (base:amH):Prop where
 kin:K.In base
 glob:base.Ns ale mg
 blt:∃ mb,base.Ns asM mb/\∀ x:Str,x ≠ "__name__" -> mb x=amb x
 nolimit:base.NoLimit
structure Cx where
 prog:alr
 w:alS
 K:ak2
 mg:Str->Option ak3
 base:amH
 A:alY
 N:List Str
 s₀:ak7
 H₀:Hp
 env:Env
 outer:List Env
 stack:List Env
 ex:List ala
 fn:Str->Bool
 calm:Bool
 pn:List (ala × Obj)
 xe:ak3->ak7->Prop
noncomputable def bf (l:List Env):List ala:=l.filterMap (·.frame)
noncomputable abbrev Cx.fs (X:Cx):List ala:=bf X.outer
noncomputable def vg (sc:apo) (x:Str):Prop:=sc.names.lookup x=some .local∨sc.names.lookup x=some .cell∨sc.names.lookup x=some .free
noncomputable def Loc (sc:apo) (x:Str):Prop:=sc.names.lookup x=some .local∨sc.names.lookup x=some .cell
noncomputable def Look (env:Env) (h:amH) (m:Str->Option ak3) (x:Str) (u:ak3):Prop :=
 (env.kindOf x=some .local/\m x=some u)∨((env.kindOf x=some .cell∨env.kindOf x=some .free)/\∃ c,env.cells.lookup x=some c/\h.IsCell c (some u))
structure Cx.Ok (X:Cx):Prop where
 mod:Mod X.K X.mg X.base
 kind:X.env.scope.kind = .function
 glob:X.env.globals=ale
 blt:X.env.builtins=asM
 above:X.s₀.heap.objs.size<=X.env.locals
 inj:∀ x y c,X.env.cells.lookup x=some c->X.env.cells.lookup y=some c->x=y
 has:∀ x,(X.env.kindOf x=some .cell∨X.env.kindOf x=some .free)->∃ c,X.env.cells.lookup x=some c
 cab:∀ x c,X.fn x=true->X.env.cells.lookup x=some c->X.s₀.heap.objs.size<=c
 hd:X.calm=true->X.A.handled=none
 frames:X.A.frames=some X.stack
 stk:X.stack=X.outer∨(X.stack=X.env::X.outer/\X.env.frame=some X.env.locals)
 exf:∀ b∈X.ex,b≠X.env.locals/\∀ x c,X.env.cells.lookup x=some c->c≠b
 bs:∀ b o,X.base.get? b=some o->X.s₀.heap.get? b=some o/\X.H₀ b=none
 bsz:X.base.objs.size<=X.s₀.heap.objs.size
 noex:∀ b o,X.base.get? b=some o->b∉X.ex
 exfs:∀ b∈X.ex,b∉X.fs
 gi:X.s₀.heap.FunFrames X.base X.outer
 frf:∀ b∈X.fs,X.H₀ b=none
structure Inv (X:Cx) (pins:List (ala × Obj)) (σ:List (Option V)) (H:Hp) (s:ak7):Prop where
 ok:X.Ok
 os:s.os=X.s₀.os
 bare:aqv s.gens
 base:Un X.fs X.ex X.H₀ H X.s₀.heap s.heap
 loc:∃ m,s.heap.Ns X.env.locals m/\∀ (i:Nat) (x:Str) (v:V),X.N[i]?=some x->σ[i]?=some (some v)->vg X.env.scope x->∃ u,RelV v u/\Look X.env s.heap m x u
 cell:∀ x c,X.env.cells.lookup x=some c->∃ v,s.heap.IsCell c v
 free:H X.env.locals=none
 gj:∀ x c,X.env.cells.lookup x=some c->H c=none
 pin:∀ p∈X.pn++pins,s.heap.get? p.1=some p.2/\H p.1=none/\p.1≠X.env.locals/\p.1∉X.fs/\∀ v,p.2.data ≠ .cell v
 ao:bQ X.prog X.w H s.heap
 len:σ.length=X.N.length
section
variable {X:Cx} {pins:List (ala × Obj)} {σ:List (Option V)} {H H':Hp} {s:ak7} {h':amH}
theorem Cx.Ok.iZ (ok:X.Ok) {b:ala} {o:Obj} (e:X.base.get? b=some o):b∉X.fs:=fun hb=>by
 have:=(ok.gi.mem hb).1
 rw[e] at this;cases this
theorem Inv.bs (I:Inv X pins σ H s):∀ b o,X.base.get? b=some o->s.heap.get? b=some o/\H b=none:=fun b o e =>
 ⟨I.base.keep b o (I.ok.bs b o e).1 (I.ok.bs b o e).2 (I.ok.iZ e) (I.ok.noex b o e),I.base.free b o (I.ok.bs b o e).1 (I.ok.bs b o e).2 (I.ok.noex b o e)⟩
theorem Inv.bk (I:Inv X pins σ H s):∀ b o,X.base.get? b=some o->s.heap.get? b=some o:=fun b o e=>(I.bs b o e).1
theorem Inv.mod (I:Inv X pins σ H s):Mod X.K X.mg X.base:=I.ok.mod
theorem Inv.cA (I:Inv X pins σ H s):X.K.In s.heap:=I.ok.mod.kin.keeps I.bk
theorem Inv.lt (I:Inv X pins σ H s):X.env.locals<s.heap.objs.size:=let ⟨_,hn,_⟩:=I.loc;hn.lt
theorem Inv.sz (I:Inv X pins σ H s):X.s₀.heap.objs.size<=s.heap.objs.size:=alp I.ok.above (aoW I.lt)
theorem Inv.yA (I:Inv X pins σ H s) {a:ala} (h:s.heap.objs.size<=a):a∉X.fs:=fun hb=>by
 obtain⟨_,o,ho,_⟩:=I.ok.gi.mem hb
 exact absurd (alC (alb ho) (alp I.sz h)) (amL _)
theorem Inv.kC (I:Inv X pins σ H s):∀ x c,X.env.cells.lookup x=some c->c≠X.env.locals:=fun x c e z=>by
 obtain⟨v,o,ho,hd⟩:=I.cell x c e
 obtain⟨m,⟨o',es,ep,cK,gM,_⟩,_⟩:=I.loc
 rw[z,cK] at ho;cases ho;rw[gM] at hd;cases hd
theorem Inv.gi (I:Inv X pins σ H s):s.heap.FunFrames X.base X.outer:=by
 have all:∀ (l:List Env),(∀ b∈bf l,b∈X.fs)->X.s₀.heap.FunFrames X.base l->s.heap.FunFrames X.base l:=by
  intro l
  induction l with
  | nil=>intro _ _;trivial
  | cons env r ih =>
   intro hs hl
   obtain⟨hk,⟨L,o,hf,hn,ho,hd⟩,hr⟩:=hl
   have hL:L∈X.fs:=hs L (by unfold bf;rw[amx,hf];exact am8)
   obtain⟨sl,e⟩:=I.base.slot L o ho (I.ok.frf L hL) hL fun z=>I.ok.exfs L z hL
   exact⟨hk,⟨L,_,hf,hn,e,hd⟩,ih (fun b hb=>hs b (by unfold bf;rw[amx,hf];exact alT _ hb)) hr⟩
 exact all X.outer (fun _ hb=>hb) I.ok.gi
theorem Inv.stack (I:Inv X pins σ H s):s.heap.FunFrames X.base X.stack:=by
 rcases I.ok.stk with e|⟨e,hf⟩
 ·rw[e];exact I.gi
 ·rw[e]
  obtain⟨m,hn,_⟩:=I.loc
  refine .cons (by rw[I.ok.kind];decide) hf hn ?_ I.gi
  exact Heap.get?_none_of_le (alp I.ok.bsz I.ok.above)
theorem Inv.ip (I:Inv X pins σ H s):∀ b∈bf X.stack,b∈X.env.locals::X.fs:=fun b hb=>by
 rcases I.ok.stk with e|⟨e,hf⟩
 ·rw[e] at hb;exact alT _ hb
 ·rw[e] at hb
  unfold bf at hb
  rw[amx,hf] at hb
  exact hb
theorem Inv.rK (I:Inv X pins σ H s):∀ b∈bf X.stack,H b=none:=fun b hb=>by
 rcases alk.mp (I.ip b hb) with e|hb
 ·rw[e];exact I.free
 ·obtain⟨_,o,ho,_⟩:=I.ok.gi.mem hb
  exact I.base.free b o ho (I.ok.frf b hb) fun z=>I.ok.exfs b z hb
theorem Inv.step {g':Array ark} {t':Nat} {d':Drawn} {ch:List ala} (I:Inv X pins σ H s)
 (iq:∀ b∈ch,(b∈X.ex∨X.s₀.heap.objs.size<=b)/\b≠X.env.locals/\(∀ x c,X.env.cells.lookup x=some c->c≠b)/\∀ p∈X.pn++pins,p.1≠b)
 (keep:∀ b o,b≠X.env.locals->b∉X.fs->b∉ch->s.heap.get? b=some o->H b=none->h'.get? b=some o)
 (slot:∀ b o,b≠X.env.locals->b∈X.fs->b∉ch->s.heap.get? b=some o->H b=none->∃ sl,h'.get? b=some { o with slots:=sl }) (free:∀ b o,b∉ch->s.heap.get? b=some o->H b=none->H' b=none)
 (there:∀ b o,b∉ch->s.heap.get? b=some o->∃ o',h'.get? b=some o')
 (ff:∀ b xs,H b=some (.tup xs)->H' b=some (.tup xs)) (eG:∀ b o u,H b=some (.aX o u)->H' b=some (.aX o u)) (fg:∀ b ps,H b=some (.tbl ps)->∃ more,H' b=some (.tbl (ps++more)))
 (ns:∀ m,s.heap.Ns X.env.locals m->h'.Ns X.env.locals m) (ao:bQ X.prog X.w H' h') (hg:aqv g') :
 Inv X pins σ H' { s with heap:=h',gens:=g',drawn:=d',toks:=t' }:=by
 have nX:∀ b o,X.s₀.heap.get? b=some o->b≠X.env.locals:=fun b o e=>alA (alC (alb e) I.ok.above)
 have vh:∀ b o,X.s₀.heap.get? b=some o->b∉X.ex->b∉ch:=fun b o e hx hb=>by
  rcases (iq b hb).1 with z|z
  ·exact hx z
  ·exact absurd (alC (alb e) z) (amL _)
 have cellK:∀ x c,X.env.cells.lookup x=some c->∀ v,s.heap.IsCell c v->h'.IsCell c v:=fun x c e v ⟨o,ho,hd⟩=>by
  have jK:c∉ch:=fun z=>(iq c z).2.2.1 x c e rfl
  by_cases hc:c∈X.fs
  ·obtain⟨sl,q⟩:=slot c o (I.kC x c e) hc jK ho (I.gj x c e)
   exact⟨_,q,hd⟩
  ·exact⟨o,keep c o (I.kC x c e) hc jK ho (I.gj x c e),hd⟩
 refine⟨I.ok,I.os,hg,⟨fun b o e n hb hx=>?_,fun b o e n hb hx=>?_,fun b o e n hx=>?_,fun b o e hx=>?_,fun b xs e=>ff b xs (I.base.ff b xs e),fun b o xs e=>eG b o xs (I.base.eG b o xs e),fun b ps e=>?_⟩,?_,fun x c e=>?_,?_,fun x c e=>?_,fun p hp=>?_,ao,I.len⟩
 ·exact keep b o (nX b o e) hb (vh b o e hx) (I.base.keep b o e n hb hx) (I.base.free b o e n hx)
 ·obtain⟨sl,e1⟩:=I.base.slot b o e n hb hx
  obtain⟨eV,e2⟩:=slot b _ (nX b o e) hb (vh b o e hx) e1 (I.base.free b o e n hx)
  exact⟨eV,e2⟩
 ·obtain⟨o',e1⟩:=I.base.there b o e hx
  exact free b o' (vh b o e hx) e1 (I.base.free b o e n hx)
 ·obtain⟨o',e1⟩:=I.base.there b o e hx
  exact there b o' (vh b o e hx) e1
 ·obtain⟨m1,e1⟩:=I.base.fg b ps e
  obtain⟨m2,e2⟩:=fg b _ e1
  exact⟨m1++m2,by rw[e2,arl]⟩
 ·obtain⟨m,hn,hl⟩:=I.loc
  refine⟨m,ns m hn,fun i x v e1 e2 e3=>?_⟩
  obtain⟨u,r,l⟩:=hl i x v e1 e2 e3
  refine⟨u,r,?_⟩
  rcases l with l|⟨k,c,e,z⟩
  ·exact .inl l
  ·exact .inr ⟨k,c,e,cellK x c e _ z⟩
 ·obtain⟨v,z⟩:=I.cell x c e
  exact⟨v,cellK x c e v z⟩
 ·obtain⟨m,⟨o,_,_,ho,_⟩,_⟩:=I.loc
  exact free _ o (fun z=>(iq _ z).2.1 rfl) ho I.free
 ·obtain⟨v,o,ho,hd⟩:=I.cell x c e
  exact free c o (fun z=>(iq c z).2.2.1 x c e rfl) ho (I.gj x c e)
 ·obtain⟨e,n,ne,nf,d⟩:=I.pin p hp
  have jK:p.1∉ch:=fun z=>(iq p.1 z).2.2.2 p hp rfl
  exact⟨keep p.1 p.2 ne nf jK e n,free p.1 p.2 jK e n,ne,nf,d⟩
theorem Inv.un {t':Nat} (I:Inv X pins σ H s) (u:Un X.fs [] H H' s.heap h') (ao:bQ X.prog X.w H' h'):Inv X pins σ H' { s with heap:=h',toks:=t' }:=by
 obtain⟨m,⟨o,es,ep,ho,r⟩,_⟩:=id I.loc
 obtain⟨sl,hL⟩:=u.any ho I.free (by simp)
 exact I.step (g':=s.gens) (d':=s.drawn) (ch:=[]) (fun _ z=>nomatch z) (fun b o _ hb _ e n=>u.keep b o e n hb (by simp)) (fun b o _ hb _ e n=>u.slot b o e n hb (by simp)) (fun b o _ e n=>u.free b o e n (by simp)) (fun b o _ e=>u.there b o e (by simp)) u.ff u.eG u.fg (fun m' hm=>by
  obtain⟨o',es',rL,cK,r'⟩:=hm
  rw[ho] at cK;cases cK
  exact⟨_,es',rL,hL,r'⟩) ao I.bare
theorem Inv.call {g':Array ark} {t':Nat} {d':Drawn} {ch:List ala} (I:Inv X pins σ H s) (u:Un (bf X.stack) ch H H' s.heap h') (ao:bQ X.prog X.w H' h') (hg:aqv g')
 (iq:∀ b∈ch,(b∈X.ex∨X.s₀.heap.objs.size<=b)/\b≠X.env.locals/\(∀ x c,X.env.cells.lookup x=some c->c≠b)/\∀ p∈X.pn++pins,p.1≠b) :
 Inv X pins σ H' { s with heap:=h',gens:=g',drawn:=d',toks:=t' }:=by
 obtain⟨m,⟨o,es,ep,ho,r⟩,_⟩:=id I.loc
 obtain⟨sl,hL⟩:=u.any ho I.free fun z=>(iq _ z).2.1 rfl
 exact I.step (ch:=ch) iq (fun b o hL hb hc e n=>u.keep b o e n (fun z=>(alk.mp (I.ip b z)).elim hL hb) hc) (fun b o _ _ hc e n=>u.any e n hc) (fun b o hc e n=>u.free b o e n hc) (fun b o hc e=>u.there b o e hc) u.ff u.eG u.fg (fun m' hm=>by
  obtain⟨o',es',rL,cK,r'⟩:=hm
  rw[ho] at cK;cases cK
  exact⟨_,es',rL,hL,r'⟩) ao hg
theorem Inv.turned {t':Nat} {it:ala} (I:Inv X pins σ H s) (k:∀ b o,b≠it->s.heap.get? b=some o->h'.get? b=some o) (hn:H it=none) (hL:it≠X.env.locals)
 (h1:it∈X.ex∨X.s₀.heap.objs.size<=it) (h2:∀ x c,X.env.cells.lookup x=some c->c≠it) (h3:∀ p∈X.pn++pins,p.1≠it):Inv X pins σ H { s with heap:=h',toks:=t' }:=by
 have JM:∀ b u,H b=some u->b≠it:=fun b u e z=>by rw[z,hn] at e;cases e
 refine I.step (g':=s.gens) (d':=s.drawn) (ch:=[it]) (fun b hb=>?_) (fun b o _ _ hc e _=>k b o (fun z=>hc (by simp[z])) e) (fun b o _ _ hc e _=>⟨o.slots,k b o (fun z=>hc (by simp[z])) e⟩) (fun _ _ _ _ n=>n)
  (fun b o hc e=>⟨o,k b o (fun z=>hc (by simp[z])) e⟩) (fun _ _ e=>e) (fun _ _ _ e=>e) (fun b ps e=>⟨#[],by rw[e];simp⟩) (fun m hm=>?_) (fun b u e=>?_) I.bare
 ·have e:b=it:=by simpa using hb
  subst e
  exact⟨h1,hL,h2,h3⟩
 ·obtain⟨o,es,ep,ho,r⟩:=hm
  exact⟨o,es,ep,k _ o (al5 hL) ho,r⟩
 ·refine (I.ao b u e).fI (fun c v hc q=>k c v ?_ q) (fun _ q=>q) fun _ _ q=>q
  rcases hc with z|z
  ·rw[z];exact JM b u e
  ·exact JM c _ z
theorem Inv.tok (I:Inv X pins σ H s) (t:Nat):Inv X pins σ H { s with toks:=t }:=I.un (h':=s.heap) (t':=t) Un.refl I.ao
theorem Inv.kept {t':Nat} (I:Inv X pins σ H s) (k:∀ b u,s.heap.get? b=some u->h'.get? b=some u):Inv X pins σ H { s with heap:=h',toks:=t' }:=I.un (Un.kept k) (I.ao.kept k)
theorem Inv.laid {a:ala} {o:HO} {t':Nat} (I:Inv X pins σ H s) (k:∀ b u,s.heap.get? b=some u->h'.get? b=some u) (hp:s.heap.objs.size<=a) (new:bD X.prog X.w (upd H a o) h' a o) :
 Inv X pins σ (upd H a o) { s with heap:=h',toks:=t' }:=I.un (Un.laid k hp (I.ao.fresh hp)) (I.ao.laid k hp new)
theorem Inv.write {x e:ala} {o:HO} {t':Nat} (I:Inv X pins σ H s) (mu:rJ (H x)) (he:e=x∨H e=some (.own x)) (k:∀ b u,b≠e->s.heap.get? b=some u->h'.get? b=some u) (nW:∃ u,h'.get? e=some u)
 (new:bD X.prog X.w (upd H x o) h' x o):Inv X pins σ (upd H x o) { s with heap:=h',toks:=t' }:=I.un (Un.write mu he k nW) (I.ao.write mu he k nW new)
theorem Inv.kD {JN:List (ala × Obj)} (I:Inv X pins σ H s) (h:∀ p∈JN,s.heap.get? p.1=some p.2/\H p.1=none/\p.1≠X.env.locals/\p.1∉X.fs/\∀ v,p.2.data ≠ .cell v):Inv X JN σ H s :=
 ⟨I.ok,I.os,I.bare,I.base,I.loc,I.cell,I.free,I.gj,fun p hp=>(alK.mp hp).elim (fun z=>I.pin p (amE _ z)) (h p),I.ao,I.len⟩
theorem JO {N:List Str} (hN:N.Nodup) {i j:Nat} {x:Str} (a:N[i]?=some x) (b:N[j]?=some x):i=j:=by
 obtain⟨h1,e1⟩:=alj.mp a
 obtain⟨h2,e2⟩:=alj.mp b
 exact (List.getElem_inj hN).mp (e1.trans e2.symm)
theorem Se {M:Model} {A:alY} {E:ak3->ak7->Prop} {i:Nat} {x:Str} {v:V} {u:ak3} {Q:Unit->ak7->Prop} (I:Inv X pins σ H s) (hN:X.N.Nodup) (hi:X.N[i]?=some x) (hx:Loc X.env.scope x) (r:RelV v u)
 (h:∀ s',Inv X pins (σ.set i (some v)) H s'->(∃ a,Heap.SameBut a s.heap s'.heap/\(a=X.env.locals∨X.env.cells.lookup x=some a))->Q () s') (hf:X.fn x=true∨X.env.scope.names.lookup x=some .local:=by first|exact .inl rfl|exact .inr rfl|assumption):alu M A (storeName X.env x u) Q E s:=by
 obtain⟨m,hn,hl⟩:=id I.loc
 have Sf:(X.env.scope.kind == .class || (X.env.scope.kind == .module && X.env.locals != X.env.globals))=false:=by rw[I.ok.kind];rfl
 have JP:i<σ.length:=by rw[I.len];exact (alj.mp hi).1
 have kC:=I.kC
 have tracked:∀ {a:ala} {h':amH},(∃ o,s.heap.get? a=some o/\H a=none)->Heap.SameBut a s.heap h'->bQ X.prog X.w H h':=fun {a h'} ha hs b ob e=>by
  obtain⟨_,_,hfree⟩:=ha
  refine (I.ao b ob e).fI (fun c w' hc q=>(hs.2 c ?_).trans q) (fun _ q=>q) fun _ _ q=>q
  rintro rfl
  rcases hc with rfl|hc
  ·rw[hfree] at e;cases e
  ·rw[hfree] at hc;cases hc
 rcases hx with hk|hk
 ·refine wpAny_storeName_local hk hn (fun h' rM hs=>?_) Sf
  obtain⟨oL,_,_,Sg,_⟩:=id hn
  refine h _ ⟨I.ok,I.os,I.bare,⟨fun b o e n hb hx=>?_,fun b o e n hb hx=>?_,I.base.free,fun b o e hx=>?_,I.base.ff,I.base.eG,I.base.fg⟩,⟨_,rM,fun j y v' e1 e2 e3=>?_⟩,fun y c e=>?_,I.free,I.gj,fun p hp=>?_,tracked ⟨oL,Sg,I.free⟩ hs,by simpa using I.len⟩ ⟨_,hs,.inl rfl⟩
  ·exact (hs.2 b (alA (alC (alb e) I.ok.above))).trans (I.base.keep b o e n hb hx)
  ·obtain⟨sl,e1⟩:=I.base.slot b o e n hb hx
   exact⟨sl,(hs.2 b (alA (alC (alb e) I.ok.above))).trans e1⟩
  ·obtain⟨o',e1⟩:=I.base.there b o e hx
   exact⟨o',(hs.2 b (alA (alC (alb e) I.ok.above))).trans e1⟩
  ·by_cases hj:j=i
   ·subst hj
    rw[hi] at e1;cases e1
    rw[aqg JP] at e2
    cases e2
    exact⟨u,r,.inl ⟨hk,by simp⟩⟩
   ·rw[aqU (al5 hj)] at e2
    obtain⟨u',r',q⟩:=hl j y v' e1 e2 e3
    refine⟨u',r',?_⟩
    rcases q with ⟨k,e⟩|⟨k,c,e,z⟩
    ·refine .inl ⟨k,?_⟩
     have:y≠x:=fun e=>hj (JO hN e1 (e ▸ hi))
     simp[this,e]
    ·exact .inr ⟨k,c,e,z.sameBut hs (kC y c e)⟩
  ·obtain⟨w',z⟩:=I.cell y c e
   exact⟨w',z.sameBut hs (kC y c e)⟩
  ·obtain⟨e,n,ne,nf,d⟩:=I.pin p hp
   exact⟨(hs.2 p.1 ne).trans e,n,ne,nf,d⟩
 ·have yB:X.fn x=true:=by
   rcases hf with z|z
   ·exact z
   ·rw[z] at hk;cases hk
  obtain⟨c,hc⟩:=I.ok.has x (.inl hk)
  obtain⟨w',z⟩:=I.cell x c hc
  refine wpAny_storeName_cell I.ok.kind hk hc z (fun h' i0 hs=>?_)
  obtain⟨oc,hoc,hocd⟩:=id z
  refine h { s with heap:=h' } ⟨I.ok,I.os,I.bare,⟨fun b o e n hb hx=>?_,fun b o e n hb hx=>?_,I.base.free,fun b o e hx=>?_,I.base.ff,I.base.eG,I.base.fg⟩,⟨m,hn.sameBut hs (al5 (kC x c hc)),fun j y v' e1 e2 e3=>?_⟩,fun y c' e=>?_,I.free,I.gj,fun p hp=>?_,tracked ⟨oc,hoc,I.gj x c hc⟩ hs,by simpa using I.len⟩ ⟨c,hs,.inr hc⟩
  ·exact (hs.2 b (alA (alC (alb e) (I.ok.cab x c yB hc)))).trans (I.base.keep b o e n hb hx)
  ·obtain⟨sl,e1⟩:=I.base.slot b o e n hb hx
   exact⟨sl,(hs.2 b (alA (alC (alb e) (I.ok.cab x c yB hc)))).trans e1⟩
  ·obtain⟨o',e1⟩:=I.base.there b o e hx
   exact⟨o',(hs.2 b (alA (alC (alb e) (I.ok.cab x c yB hc)))).trans e1⟩
  ·by_cases hj:j=i
   ·subst hj
    rw[hi] at e1;cases e1
    rw[aqg JP] at e2
    cases e2
    exact⟨u,r,.inr ⟨.inl hk,c,hc,i0⟩⟩
   ·rw[aqU (al5 hj)] at e2
    obtain⟨u',r',q⟩:=hl j y v' e1 e2 e3
    refine⟨u',r',?_⟩
    rcases q with q|⟨k,c',e,z'⟩
    ·exact .inl q
    ·refine .inr ⟨k,c',e,z'.sameBut hs ?_⟩
     rintro rfl
     exact hj (JO hN e1 (I.ok.inj _ _ _ e hc ▸ hi))
  ·by_cases vk:c'=c
   ·subst vk;exact⟨_,i0⟩
   ·obtain⟨w2,z2⟩:=I.cell y c' e
    exact⟨w2,z2.sameBut hs vk⟩
  ·obtain⟨e,n,ne,nf,d⟩:=I.pin p hp
   refine⟨(hs.2 p.1 ?_).trans e,n,ne,nf,d⟩
   intro q
   rw[q,hoc] at e
   have q':oc=p.2:=Option.some.inj e
   exact d w' (by rw[<- q'];exact hocd)
theorem JQ {M:Model} {A:alY} {E:ak3->ak7->Prop} {i:Nat} {x:Str} {v:V} {u:ak3} {Q:Unit->ak7->Prop} (I:Inv X pins σ H s) (hN:X.N.Nodup) (hi:X.N[i]?=some x) (hx:Loc X.env.scope x) (r:RelV v u)
 (h:∀ s',Inv X pins (σ.set i (some v)) H s'->Q () s') (hf:X.fn x=true∨X.env.scope.names.lookup x=some .local:=by first|exact .inl rfl|exact .inr rfl|assumption):alu M A (storeName X.env x u) Q E s :=
 Se I hN hi hx r (fun s' I' _=>h s' I') hf
theorem Inv.JR {s':ak7} {ch:List ala} (I:Inv X pins σ H s) (ho:s'.os=s.os) (u:Un (bf X.stack) ch H H' s.heap s'.heap) (ao:bQ X.prog X.w H' s'.heap) (hg:aqv s'.gens)
 (iq:∀ b∈ch,(b∈X.ex∨X.s₀.heap.objs.size<=b)/\b≠X.env.locals/\(∀ x c,X.env.cells.lookup x=some c->c≠b)/\∀ p∈X.pn++pins,p.1≠b):Inv X pins σ H' s':=by
 obtain⟨h',g',d',t',o'⟩:=s'
 have e:o'=s.os:=ho
 subst e
 exact I.call (g':=g') (t':=t') (d':=d') u ao hg iq
end
noncomputable abbrev XK:=ak3->Option ala->Hp->Prop
noncomputable abbrev St:=List (Option V)
noncomputable abbrev VK:=V->Hp->Prop
noncomputable abbrev TE:=St->Hp->VK->Prop
noncomputable abbrev TT:=St->Hp->(Bool->Hp->Prop)->Prop
noncomputable abbrev TA:=St->Hp->(List V->Hp->Prop)->Prop
structure Ends where
 nx:St->Hp->Prop
 rt:VK
 bk:St->Hp->Prop:=fun _ _=>False
 ct:St->Hp->Prop:=fun _ _=>False
noncomputable abbrev TS:=Ends->St->Hp->Prop
noncomputable def EP (X:Cx) (pins:List (ala × Obj)) (σ:St) (Q:VK) (u:ak3) (s':ak7):Prop:=∃ v H',Inv X pins σ H' s'/\RelV v u/\Q v H'
noncomputable def TP (X:Cx) (pins:List (ala × Obj)) (σ:St) (Q:Bool->Hp->Prop) (b:Bool) (s':ak7):Prop:=∃ H',Inv X pins σ H' s'/\Q b H'
noncomputable def AP (X:Cx) (pins:List (ala × Obj)) (σ:St) (Q:List V->Hp->Prop) (us:List ak3) (s':ak7):Prop:=∃ vs H',Inv X pins σ H' s'/\Vals vs us/\Q vs H'
noncomputable def SP (X:Cx) (pins:List (ala × Obj)) (D:Ends) (f:Flow) (s':ak7):Prop :=
 match f with
 | .next=>∃ σ' H',Inv X pins σ' H' s'/\D.nx σ' H'
 | .brk=>∃ σ' H',Inv X pins σ' H' s'/\D.bk σ' H'
 | .cont=>∃ σ' H',Inv X pins σ' H' s'/\D.ct σ' H'
 | .ret u=>∃ v σ' H',Inv X pins σ' H' s'/\RelV v u/\D.rt v H'
noncomputable def PE (X:Cx) (e:am7) (t:TE):Prop :=
 ∀ (pins:List (ala × Obj)) (s:ak7) (σ:St) (H:Hp) (Q:VK),Inv X pins σ H s->t σ H Q->alu (model X.prog X.w) X.A (eval e X.env) (EP X pins σ Q) X.xe s
noncomputable def PT (X:Cx) (e:am7) (t:TT):Prop :=
 ∀ (pins:List (ala × Obj)) (s:ak7) (σ:St) (H:Hp) (Q:Bool->Hp->Prop),Inv X pins σ H s->t σ H Q->alu (model X.prog X.w) X.A (asN e X.env (eval e X.env)) (TP X pins σ Q) X.xe s
noncomputable def PW (X:Cx) (e:am7) (t:TT):Prop :=
 ∀ (whole:Sem ak3) (pins:List (ala × Obj)) (s:ak7) (σ:St) (H:Hp) (Q:Bool->Hp->Prop),Inv X pins σ H s->t σ H Q->alu (model X.prog X.w) X.A (asN e X.env whole) (TP X pins σ Q) X.xe s
theorem PW.pt {X:Cx} {e:am7} {t:TT} (h:PW X e t):PT X e t:=h _
noncomputable def PA (X:Cx) (es:List am7) (t:TA):Prop :=
 ∀ (pos:Pos) (pins:List (ala × Obj)) (s:ak7) (σ:St) (H:Hp) (Q:List V->Hp->Prop),Inv X pins σ H s->t σ H Q->alu (model X.prog X.w) X.A (spliced (anQ pos (alM es X.env))) (AP X pins σ Q) X.xe s
noncomputable def PS (X:Cx) (st:anD) (t:TS):Prop :=
 ∀ (pins:List (ala × Obj)) (s:ak7) (σ:St) (H:Hp) (D:Ends),Inv X pins σ H s->t D σ H->alu (model X.prog X.w) X.A (exec st X.env) (SP X pins D) X.xe s
noncomputable def bw (X:Cx) (st:List anD) (t:TS):Prop :=
 ∀ (pins:List (ala × Obj)) (s:ak7) (σ:St) (H:Hp) (D:Ends),Inv X pins σ H s->t D σ H->alu (model X.prog X.w) X.A (execs st X.env) (SP X pins D) X.xe s
theorem aC {α:Type} {t:Sem α} {Q Q':α->ak7->Prop} {M:Model} {A:alY} {E:ak3->ak7->Prop} {s:ak7} (h:alu M A t Q E s) (hQ:∀ a s,Q a s->Q' a s):alu M A t Q' E s:=amc h hQ fun _ _ x=>x
end L2
namespace L2
open PySem PySem.Spec PyProof.Rows
section
variable {X:Cx}
noncomputable def yC (i:Nat):TE:=fun σ H Q=>∃ v,σ[i]?=some (some v)/\Q v H
noncomputable def tC (v:V):TE:=fun _ H Q=>Q v H
theorem Sh {i:Nat} {x:Str} {pos:Pos} (hN:X.N[i]?=some x) (hv:vg X.env.scope x) (hd:(x == ("__debug__" : Str))=false:=by decide) (fi:(x == ("__classdict__" : Str))=false:=by decide):PE X (.Name x pos) (yC i):=by
 intro pins s σ H Q I h
 obtain⟨v,e,h⟩:=h
 obtain⟨m,hn,hl⟩:=I.loc
 obtain⟨u,r,l⟩:=hl i x v hN e hv
 have fin:EP X pins σ Q u s:=⟨v,H,I,r,h⟩
 rcases l with ⟨hk,hm⟩|⟨hk,c,hc,hcell⟩
 ·exact asO (wpAny_loadName_local I.ok.kind hk hn hm fin) hd
 ·rcases hk with hk|hk
  ·exact asO (wpAny_loadName_cell I.ok.kind hk hc hcell fin) hd
  ·exact asO (wpAny_loadName_free I.ok.kind hk hc hcell fin fi) hd
theorem af {i j pos}:PE X (.Constant (.int i) j pos) (tC (.int i)):=fun _ _ _ H _ I h=>wpAny_Constant_int ⟨.int i,H,I.tok _,⟨_,rfl⟩,h⟩
theorem dJ {b j pos}:PE X (.Constant (.bool b) j pos) (tC (.bl b)):=fun _ _ _ H _ I h=>Constant_bool ⟨.bl b,H,I,rfl,h⟩
theorem bR {j pos}:PE X (.Constant .none j pos) (tC .non):=fun _ _ _ H _ I h=>arn ⟨.non,H,I,rfl,h⟩
theorem bH {x j pos}:PE X (.Constant (.str x) j pos) (tC (.str x)):=fun _ _ _ H _ I h=>Calls.Constant_str ⟨.str x,H,I.tok _,⟨_,rfl⟩,h⟩
noncomputable def Gl (X:Cx) (x:Str):Prop:=X.env.kindOf x=some .globalImplicit
theorem vm {E:ak3->ak7->Prop} {pins:List (ala × Obj)} {s:ak7} {σ:St} {H:Hp} {x:Str} {u:ak3} {pos:Pos} {Q:ak3->ak7->Prop} (I:Inv X pins σ H s) (hg:Gl X x) (hm:X.mg x=some u) (h:Q u s)
 (hd:(x == ("__debug__" : Str))=false:=by decide):alu (model X.prog X.w) X.A (eval (.Name x pos) X.env) Q E s :=
 apq I.ok.kind hg (Calls.loadGlobal_global (by rw[I.ok.glob];exact I.mod.glob.keeps I.bk) hm h) hd
theorem eW {E:ak3->ak7->Prop} {pins:List (ala × Obj)} {s:ak7} {σ:St} {H:Hp} {x:Str} {u:ak3} {pos:Pos} {Q:ak3->ak7->Prop} (I:Inv X pins σ H s) (hg:Gl X x) (hm:X.mg x=none) (hv:amb x=some u) (h:Q u s)
 (hn:x ≠ "__name__" := by decide) (hd:(x == ("__debug__" : Str))=false:=by decide):alu (model X.prog X.w) X.A (eval (.Name x pos) X.env) Q E s:=by
 obtain⟨mb,h1,h2⟩:=I.mod.blt
 exact apq I.ok.kind hg (Calls.loadGlobal_builtin (by rw[I.ok.glob];exact I.mod.glob.keeps I.bk) hm (by rw[I.ok.blt];exact h1.keeps I.bk) ((h2 x hn).trans hv) h) hd
theorem Si {x:Str} {v:V} {u:ak3} {pos:Pos} (hg:Gl X x) (hm:X.mg x=some u) (r:RelV v u) (hd:(x == ("__debug__" : Str))=false:=by decide):PE X (.Name x pos) (tC v) :=
 fun _ _ _ H _ I h=>vm I hg hm ⟨v,H,I,r,h⟩ hd
theorem nY {x:Str} {v:V} {u:ak3} {pos:Pos} (hg:Gl X x) (hm:X.mg x=none) (hv:amb x=some u) (r:RelV v u) (hn:x ≠ "__name__" := by decide) (hd:(x == ("__debug__" : Str))=false:=by decide):PE X (.Name x pos) (tC v) :=
 fun _ _ _ H _ I h=>eW I hg hm hv ⟨v,H,I,r,h⟩ hn hd
variable {a b:am7} {ta tb:TE} {pos:Pos}
noncomputable def PC (X:Cx) (op:asV) (a b:am7) (t:TE):Prop :=
 ∀ (pins:List (ala × Obj)) (s:ak7) (σ:St) (H:Hp) (Q:VK),Inv X pins σ H s->t σ H Q ->
  alu (model X.prog X.w) X.A (eval a X.env) (fun v s₁=>alu (model X.prog X.w) X.A (eval b X.env) (fun u s₂=>alu (model X.prog X.w) X.A (amD op v u) (EP X pins σ Q) X.xe s₂) X.xe s₁) X.xe s
theorem JS (b:am7) {op:asV} (h:op ≠ .In) (h2:op ≠ .NotIn):ant op b=false:=by
 have e1:(op == CmpOp.In)=false:=by cases op<;>first|rfl|exact absurd rfl h
 have e2:(op == CmpOp.NotIn)=false:=by cases op<;>first|rfl|exact absurd rfl h2
 cases b<;>simp[ant,e1,e2]
noncomputable def JT (ta:TE):TE:=fun σ H Q=>ta σ H fun x H1=>Q (.bl (decide (x = .non))) H1
noncomputable def JU (ta:TE):TE:=fun σ H Q=>ta σ H fun x H1=>Q (.bl (!decide (x = .non))) H1
theorem RelV.JV {x:V} {v:ak3} (r:RelV x v):(v == Value.none)=decide (x = .non):=by
 cases x with
 | non=>cases r;rfl
 | bl _=>cases r;rfl
 | int _=>obtain⟨t,rfl⟩:=r;rfl
 | str _=>obtain⟨t,rfl⟩:=r;rfl
 | byt _=>obtain⟨t,rfl⟩:=r;rfl
 | flt _=>obtain⟨t,rfl⟩:=r;rfl
 | ref _=>cases r;rfl
 | ty _=>cases r;rfl
theorem vo {j pos'} (ha:PE X a ta):PC X .Is a (.Constant .none j pos') (JT ta):=by
 intro pins s σ H Q I h
 refine aC (ha pins s σ H _ I h) fun v s1 ⟨x,H1,I1,r1,q1⟩=>?_
 exact arn (is_none_gen ⟨.bl _,H1,I1,by rw[r1.JV];rfl,q1⟩)
theorem yD {j pos'} (ha:PE X a ta):PC X .IsNot a (.Constant .none j pos') (JU ta):=by
 intro pins s σ H Q I h
 refine aC (ha pins s σ H _ I h) fun v s1 ⟨x,H1,I1,r1,q1⟩=>?_
 exact arn (isnot_none_gen ⟨.bl _,H1,I1,by rw[r1.JV];rfl,q1⟩)
noncomputable def tB (t:TE):TT:=fun σ H Q=>t σ H fun x H1=>∃ c,x = .bl c/\Q c H1
theorem rN {op:asV} {t:TE} (h:PC X op a b t) (h1:ant op b=false:=by first|exact JS _ (by decide) (by decide)|rfl):PE X (.Compare a [op] [b] pos) t:=fun pins s σ H Q I hw=>wpAny_Compare1 (h pins s σ H Q I hw) h1
theorem rO {op:asV} {t:TE} (h:PC X op a b t) (h1:ant op b=false:=by first|exact JS _ (by decide) (by decide)|rfl):PT X (.Compare a [op] [b] pos) (tB t):=by
 intro pins s σ H Q I hw
 refine aqw (aC (h pins s σ H _ I hw) fun v s1 h1=>aC h1 fun u s2 h2=>aC h2 fun c s3 ⟨x,H1,I1,r1,q1⟩=>?_) h1
 obtain⟨d,rfl,q⟩:=q1
 cases r1
 exact amh ⟨H1,I1,q⟩
theorem Sj {e:am7} {t:TE} (h:PE X e t) (he:∀ whole,asN e X.env whole=(do let v <- whole;asW e.pos;holding [v] (truthy v)):=by intro _;rfl):PT X e (tB t):=by
 intro pins s σ H Q I hw
 refine isTrue_plain (aC (h pins s σ H _ I hw) fun v s1 ⟨x,H1,I1,r1,q1⟩=>?_) (he _)
 obtain⟨d,rfl,q⟩:=q1
 cases r1
 exact amh ⟨H1,I1,q⟩
variable {tA vq:TT} {rest:List am7}
noncomputable def JW (t u:TT):TT:=fun σ H Q=>t σ H fun c H1=>if c=true then u σ H1 Q else Q false H1
noncomputable def JX (t u:TT):TT:=fun σ H Q=>t σ H fun c H1=>if c=true then Q true H1 else u σ H1 Q
noncomputable def JY (t:TT):TT:=fun σ H Q=>t σ H fun c H1=>Q (!c) H1
theorem dU (ha:PT X a tA):PW X (.BoolOp .And [a] pos) tA:=by
 intro wh pins s σ H Q I h
 refine isTrue_and (aC (ha pins s σ H Q I h) fun c s1 e=>?_)
 cases c with
 | true=>exact isTrue_and_nil e
 | false=>exact e
theorem dc (ha:PT X a tA):PW X (.BoolOp .Or [a] pos) tA:=by
 intro wh pins s σ H Q I h
 refine isTrue_or (aC (ha pins s σ H Q I h) fun c s1 e=>?_)
 cases c with
 | false=>exact isTrue_or_nil e
 | true=>exact e
theorem dv (ha:PT X a tA) (hb:PW X (.BoolOp .And (b::rest) pos) vq):PW X (.BoolOp .And (a::b::rest) pos) (JW tA vq):=by
 intro wh pins s σ H Q I h
 refine isTrue_and (aC (ha pins s σ H _ I h) fun c s1 ⟨H1,I1,q1⟩=>?_)
 cases c with
 | true=>exact hb wh pins s1 σ H1 Q I1 q1
 | false=>exact⟨H1,I1,q1⟩
theorem cp (ha:PT X a tA) (hb:PW X (.BoolOp .Or (b::rest) pos) vq):PW X (.BoolOp .Or (a::b::rest) pos) (JX tA vq):=by
 intro wh pins s σ H Q I h
 refine isTrue_or (aC (ha pins s σ H _ I h) fun c s1 ⟨H1,I1,q1⟩=>?_)
 cases c with
 | true=>exact⟨H1,I1,q1⟩
 | false=>exact hb wh pins s1 σ H1 Q I1 q1
theorem cL (ha:PT X a tA):PT X (.UnaryOp .Not a pos) (JY tA):=by
 intro pins s σ H Q I h
 exact isTrue_not (ha pins s σ H (fun c H1=>Q (!c) H1) I h)
noncomputable def JZ (ta tb:TE):TE:=fun σ H Q=>ta σ H fun x H1=>∃ c,x = .bl c/\if c=true then tb σ H1 Q else Q (.bl false) H1
noncomputable def J0 (ta tb:TE):TE:=fun σ H Q=>ta σ H fun x H1=>∃ c,x = .bl c/\if c=true then Q (.bl true) H1 else tb σ H1 Q
noncomputable def J1 (ta:TE):TE:=fun σ H Q=>ta σ H fun x H1=>∃ c,x = .bl c/\Q (.bl (!c)) H1
theorem i3 {op} {t:TE} (h:PE X a t):PE X (.BoolOp op [a] pos) t:=fun pins s σ H Q I hw=>BoolOp_one (h pins s σ H Q I hw)
theorem Sk (ha:PE X a ta) (hb:PE X (.BoolOp .And (b::rest) pos) tb):PE X (.BoolOp .And (a::b::rest) pos) (JZ ta tb):=by
 intro pins s σ H Q I h
 refine BoolOp_and (aC (ha pins s σ H _ I h) fun v s1 ⟨x,H1,I1,r1,q1⟩=>?_)
 obtain⟨c,rfl,q1⟩:=q1
 cases r1
 refine amh ?_
 cases c with
 | true=>exact hb pins s1 σ H1 Q I1 q1
 | false=>exact⟨.bl false,H1,I1,rfl,q1⟩
theorem Sl (ha:PE X a ta) (hb:PE X (.BoolOp .Or (b::rest) pos) tb):PE X (.BoolOp .Or (a::b::rest) pos) (J0 ta tb):=by
 intro pins s σ H Q I h
 refine BoolOp_or (aC (ha pins s σ H _ I h) fun v s1 ⟨x,H1,I1,r1,q1⟩=>?_)
 obtain⟨c,rfl,q1⟩:=q1
 cases r1
 refine amh ?_
 cases c with
 | false=>exact hb pins s1 σ H1 Q I1 q1
 | true=>exact⟨.bl true,H1,I1,rfl,q1⟩
theorem Sm (ha:PE X a ta):PE X (.UnaryOp .Not a pos) (J1 ta):=by
 intro pins s σ H Q I h
 refine UnaryOp_ (aC (ha pins s σ H _ I h) fun v s1 ⟨x,H1,I1,r1,q1⟩=>?_)
 obtain⟨c,rfl,q1⟩:=q1
 cases r1
 exact not_of (amh ⟨.bl (!c),H1,I1,rfl,q1⟩)
noncomputable def J5 (t:TT) (ta tb:TE):TE:=fun σ H Q=>t σ H fun c H1=>if c=true then ta σ H1 Q else tb σ H1 Q
theorem nZ {c:am7} (hc:PT X c tA) (ha:PE X a ta) (hb:PE X b tb):PE X (.IfExp c a b pos) (J5 tA ta tb):=by
 intro pins s σ H Q I h
 refine wpAny_IfExp (aC (hc pins s σ H _ I h) fun d s1 ⟨H1,I1,q1⟩=>?_)
 cases d with
 | true=>exact ha pins s1 σ H1 Q I1 q1
 | false=>exact hb pins s1 σ H1 Q I1 q1
end
end L2
namespace L2
open PySem PySem.Spec PyProof.Rows
noncomputable def ah (K:ak2) (H:Hp) (a:ala) (xs:List V):Prop :=
 Rd H a (.lst xs) ∨
  ∃ (o:Obj) (ai:Array ak3) (n:Nat),K.lookup a=some o/\o.cls = .type "list" /\ o.dict=none/\o.data = .seq ai n/\ai.size<=alI/\Vals xs ai.toList
noncomputable def aj (K:ak2) (H:Hp) (a:ala) (xs:List V):Prop :=
 Rd H a (.tup xs) ∨
  ∃ (o:Obj) (ai:Array ak3) (n:Nat),K.lookup a=some o/\o.cls = .type "tuple" /\ o.data = .seq ai n/\ai.size<=alI/\Vals xs ai.toList
noncomputable def Sn:ak3->Option V
 | .none=>some .non
 | .bool b=>some (.bl b)
 | .int i _=>some (.int i)
 | .str x _=>some (.str x)
 | .bytes b _=>some (.byt b)
 | .float b _=>some (.flt b)
 | .ref a=>some (.ref a)
 | .type n=>some (.ty n)
 | _=>none
theorem RelV.abs {x:V} {u:ak3} (r:RelV x u):Sn u=some x:=by
 cases x with
 | non=>cases r;rfl
 | bl _=>cases r;rfl
 | int _=>obtain⟨t,rfl⟩:=r;rfl
 | str _=>obtain⟨t,rfl⟩:=r;rfl
 | byt _=>obtain⟨t,rfl⟩:=r;rfl
 | flt _=>obtain⟨t,rfl⟩:=r;rfl
 | ref _=>cases r;rfl
 | ty _=>cases r;rfl
theorem RelV.inj {x y:V} {u:ak3} (r:RelV x u) (q:RelV y u):x=y:=Option.some.inj (r.abs.symm.trans q.abs)
theorem Vals.inj:∀ {xs ys:List V} {us:List ak3},Vals xs us->Vals ys us->xs=ys
 | _,_,_,.nil,.nil=>rfl
 | _,_,_,.cons r t,.cons r' t'=>by rw[r.inj r',Vals.inj t t']
section
variable {X:Cx} {pins:List (ala × Obj)} {σ:St} {H:Hp} {s:ak7} {a:ala} {xs ys:List V}
theorem ah.of {K:ak2} (h:H a=some (.lst xs)):ah K H a xs:=.inl (.inl h)
theorem aj.of {K:ak2} (h:H a=some (.tup xs)):aj K H a xs:=.inl (.inl h)
theorem Inv.list (I:Inv X pins σ H s) (h:ah X.K H a xs):∃ ai:List ak3,Vals xs ai/\PlainL s.heap a ai.toArray/\xs.length<=alI:=by
 rcases h with h|⟨o,ai,n,hk,hc,hd,hs,hz,r⟩
 ·obtain⟨z,ai,n,r,e⟩:=h.ok I.ao
  exact⟨ai,r,⟨_,n,e,rfl,rfl,rfl⟩,z⟩
 ·refine⟨ai.toList,r,⟨o,n,I.cA a o hk,hc,hd,by simpa using hs⟩,?_⟩
  have e:=r.length
  simp only[anJ] at e
  omega
theorem Inv.tuple (I:Inv X pins σ H s) (h:aj X.K H a xs):∃ ai:List ak3,Vals xs ai/\IsTup s.heap a ai.toArray/\xs.length<=alI:=by
 rcases h with h|⟨o,ai,n,hk,hc,hs,hz,r⟩
 ·obtain⟨z,ai,r,p⟩:=h.ok I.ao
  exact⟨ai,r,p,z⟩
 ·refine⟨ai.toList,r,⟨o,I.cA a o hk,hc,n,by simpa using hs⟩,?_⟩
  have e:=r.length
  simp only[anJ] at e
  omega
theorem Inv.rP (I:Inv X pins σ H s) (h:ah X.K H a xs) (h':ah X.K H a ys):xs=ys:=by
 obtain⟨ai,r,⟨o,n,e,_,_,d⟩,_⟩:=I.list h
 obtain⟨its',r',⟨o',n',e',_,_,d'⟩,_⟩:=I.list h'
 rw[e] at e';cases e'
 rw[d] at d'
 injection d' with d1 _
 have:ai=its':=by simpa using congrArg arS d1
 subst this
 exact r.inj r'
theorem Inv.So (I:Inv X pins σ H s) (h:aj X.K H a xs) (h':aj X.K H a ys):xs=ys:=by
 obtain⟨ai,r,⟨o,e,_,n,d⟩,_⟩:=I.tuple h
 obtain⟨its',r',⟨o',e',_,n',d'⟩,_⟩:=I.tuple h'
 rw[e] at e';cases e'
 rw[d] at d'
 injection d' with d1 _
 have:ai=its':=by simpa using congrArg arS d1
 subst this
 exact r.inj r'
end
noncomputable abbrev Cx.ir (X:Cx) (E:ak3->ak7->Prop):Cx:={ X with xe:=E }
noncomputable abbrev Cx.vw (X:Cx):Cx:=X.ir fun _ _=>False
theorem Cx.Ok.ir {X:Cx} (ok:X.Ok) (E:ak3->ak7->Prop):(X.ir E).Ok :=
 ⟨ok.mod,ok.kind,ok.glob,ok.blt,ok.above,ok.inj,ok.has,ok.cab,ok.hd,ok.frames,ok.stk,ok.exf,ok.bs,ok.bsz,ok.noex,ok.exfs,ok.gi,ok.frf⟩
theorem Cx.Ok.jL {X:Cx} {E:ak3->ak7->Prop} (ok:(X.ir E).Ok):X.Ok :=
 ⟨ok.mod,ok.kind,ok.glob,ok.blt,ok.above,ok.inj,ok.has,ok.cab,ok.hd,ok.frames,ok.stk,ok.exf,ok.bs,ok.bsz,ok.noex,ok.exfs,ok.gi,ok.frf⟩
section
variable {X:Cx} {pins:List (ala × Obj)} {σ:St} {H:Hp} {s:ak7} {E:ak3->ak7->Prop}
theorem Inv.ir (I:Inv X pins σ H s) (E:ak3->ak7->Prop):Inv (X.ir E) pins σ H s:=⟨I.ok.ir E,I.os,I.bare,I.base,I.loc,I.cell,I.free,I.gj,I.pin,I.ao,I.len⟩
theorem Inv.jL (I:Inv (X.ir E) pins σ H s):Inv X pins σ H s:=⟨I.ok.jL,I.os,I.bare,I.base,I.loc,I.cell,I.free,I.gj,I.pin,I.ao,I.len⟩
theorem SP.jL {D:Ends} {f:Flow} {s':ak7} (h:SP (X.ir E) pins D f s'):SP X pins D f s':=by
 cases f with
 | next=>obtain⟨σ',H',I,q⟩:=h;exact⟨σ',H',I.jL,q⟩
 | brk=>obtain⟨σ',H',I,q⟩:=h;exact⟨σ',H',I.jL,q⟩
 | cont=>obtain⟨σ',H',I,q⟩:=h;exact⟨σ',H',I.jL,q⟩
 | ret u=>obtain⟨v,σ',H',I,r,q⟩:=h;exact⟨v,σ',H',I.jL,r,q⟩
theorem bw.vw {st:List anD} {t:TS} (h:bw X.vw st t):bw X st t:=fun pins s σ H D I hw =>
 amc (h pins s σ H D (I.ir _) hw) (fun _ _ q=>q.jL) fun _ _ z=>ans z
end
section
variable {X:Cx} {st:anD} {rest:List anD} {t u:TS} {e:am7} {te:TE} {pos:Pos}
noncomputable def J6:TS:=fun D σ H=>D.nx σ H
noncomputable def yE (t u:TS):TS:=fun D σ H=>t { D with nx:=u D } σ H
theorem aO:bw X [] J6:=fun _ _ σ H _ I h=>aqx ⟨σ,H,I,h⟩
theorem aq (h1:PS X st t) (h2:bw X rest u):bw X (st::rest) (yE t u):=by
 intro pins s σ H D I h
 refine arW (aC (h1 pins s σ H { D with nx:=u D } I h) fun f s1 q=>?_)
 cases f with
 | next =>
  obtain⟨σ',H',I',q⟩:=q
  exact h2 pins s1 σ' H' D I' q
 | ret v=>exact q
 | brk=>exact q
 | cont=>exact q
theorem ar (h1:PS X st t):bw X [st] t:=by
 intro pins s σ H D I h
 refine arW (aC (h1 pins s σ H D I h) fun f s1 q=>?_)
 cases f with
 | next=>exact aqx q
 | ret v=>exact q
 | brk=>exact q
 | cont=>exact q
theorem Inv.quiet {pins:List (ala × Obj)} {σ:St} {H:Hp} {s:ak7} (I:Inv X pins σ H s):interactive X.env=false:=by simp[interactive,I.ok.kind]
noncomputable def J9 (te:TE):TS:=fun D σ H=>te σ H fun _ H1=>D.nx σ H1
theorem dw (he:PE X e te) (hs:aqy e none pos.line X.env=pure false:=by rfl):PS X (.Expr e pos) (J9 te):=by
 intro pins s σ H D I h
 exact wpAny_Expr_any (aC (he pins s σ H _ I h) fun v s1 ⟨x,H1,I1,r1,q1⟩=>⟨σ,H1,I1,q1⟩) I.quiet hs
noncomputable def Ka (te:TE):TS:=fun D σ H=>te σ H D.rt
theorem aG (he:PE X e te):PS X (.Return (some e) pos) (Ka te):=by
 intro pins s σ H D I h
 exact wpAny_Return_some (aC (he pins s σ H _ I h) fun v s1 ⟨x,H1,I1,r1,q1⟩=>⟨x,σ,H1,I1,r1,q1⟩)
noncomputable def Kb (c:TT) (t u:TS):TS:=fun D σ H=>c σ H fun b H1=>if b=true then t D σ H1 else u D σ H1
theorem aN {c:am7} {a b:List anD} {tc:TT} (hc:PT X c tc) (ha:bw X a t) (hb:bw X b u):PS X (.If c a b pos) (Kb tc t u):=by
 intro pins s σ H D I h
 refine wpAny_If (aC (hc pins s σ H _ I h) fun d s1 ⟨H1,I1,q1⟩=>?_)
 cases d with
 | true=>exact ha pins s1 σ H1 D I1 q1
 | false=>exact hb pins s1 σ H1 D I1 q1
end
noncomputable abbrev TG:=V->St->Hp->(St->Hp->Prop)->Prop
noncomputable abbrev kE:=List V->St->Hp->(St->Hp->Prop)->Prop
noncomputable def PG (X:Cx) (target:am7) (t:TG):Prop :=
 ∀ (pins:List (ala × Obj)) (s:ak7) (σ:St) (H:Hp) (v:V) (u:ak3) (Q:St->Hp->Prop),Inv X pins σ H s->RelV v u->t v σ H Q ->
  alu (model X.prog X.w) X.A (assign target X.env u) (fun _ s'=>∃ σ' H',Inv X pins σ' H' s'/\Q σ' H') X.xe s
noncomputable def vx (X:Cx) (ts:List am7) (t:kE):Prop :=
 ∀ (pins:List (ala × Obj)) (s:ak7) (σ:St) (H:Hp) (vs:List V) (us:List ak3) (Q:St->Hp->Prop),Inv X pins σ H s->Vals vs us->t vs σ H Q ->
  alu (model X.prog X.w) X.A (assignInOrder ((apN ts X.env).map (·.2)) us) (fun _ s'=>∃ σ' H',Inv X pins σ' H' s'/\Q σ' H') X.xe s
noncomputable abbrev yF:=V->V->V->Hp->(Hp->Prop)->Prop
noncomputable def Kc (X:Cx) (t:yF):Prop :=
 ∀ (pins:List (ala × Obj)) (s:ak7) (σ:St) (H:Hp) (o i v:V) (ov iv u:ak3) (Q:Hp->Prop),Inv X pins σ H s->RelV o ov->RelV i iv->RelV v u->t o i v H Q ->
  alu (model X.prog X.w) X.A (setItem ov iv u) (fun _ s'=>∃ H',Inv X pins σ H' s'/\Q H') X.xe s
section
variable {X:Cx} {pos:Pos}
noncomputable def de (i:Nat):TG:=fun v σ H Q=>Q (σ.set i (some v)) H
theorem bo {i:Nat} {x:Str} (hN:X.N.Nodup) (hi:X.N[i]?=some x) (hx:Loc X.env.scope x) (hf:X.fn x=true∨X.env.scope.names.lookup x=some .local:=by first|exact .inl rfl|exact .inr rfl|assumption):PG X (.Name x pos) (de i):=by
 intro pins s σ H v u Q I r h
 exact wpAny_assign_Name (JQ I hN hi hx r (fun s' I'=>⟨_,H,I',h⟩) hf)
noncomputable def jM:kE:=fun vs σ H Q=>vs=[]/\Q σ H
noncomputable def dz (t:TG) (u:kE):kE:=fun vs σ H Q=>∃ v r,vs=v::r/\t v σ H fun σ' H'=>u r σ' H' Q
theorem fJ:vx X [] jM:=by
 intro pins s σ H vs us Q I r h
 obtain⟨e,h⟩:=h
 subst e
 cases r
 exact assignInOrder_nil ⟨σ,H,I,h⟩
theorem bW {e:am7} {es:List am7} {t:TG} {u:kE} (h1:PG X e t) (h2:vx X es u)
 (hs:(apN (e::es) X.env).map (·.2)=assign e X.env::(apN es X.env).map (·.2):=by rfl):vx X (e::es) (dz t u):=by
 intro pins s σ H vs us Q I r h
 obtain⟨v,vr,e1,h⟩:=h
 subst e1
 cases r with
 | cons r rr =>
  rw[hs]
  refine assignInOrder_cons (aC (h1 pins s σ H _ _ _ I r h) fun _ s1 ⟨σ1,H1,I1,q1⟩=>?_)
  exact h2 pins s1 σ1 H1 _ _ Q I1 rr q1
noncomputable def kF (K:ak2) (n:Nat) (t:kE):TG:=fun v σ H Q=>∃ a xs,v = .ref a/\aj K H a xs/\xs.length=n/\t xs σ H Q
theorem fK {es:List am7} {k:Nat} {t:kE} {n:Nat} (hc:X.calm=true) (h:vx X es t)
 (hn:(apN es X.env).length=n:=by rfl) (cM:(apN es X.env).findIdx? (·.1)=none:=by rfl):PG X (.Tuple es k pos) (kF X.K n t):=by
 intro pins s σ H v u Q I r hw
 obtain⟨a,xs,e1,hq,hl,hw⟩:=hw
 subst e1
 cases r
 obtain⟨ai,rv,ht,hz⟩:=I.tuple hq
 refine assign_Tuple_tuple (I.ok.hd hc) ht (by simp[hn,<- hl,rv.length]) cM fun h' hx=>?_
 have I1:Inv X pins σ H { s with heap:=h' }:=I.kept (t':=s.toks) fun b o e=>hx b o (alA (alb e)) e
 exact h pins _ σ H xs _ Q I1 (by simpa using rv) hw
noncomputable def Kd (to ti:TE) (t:yF):TG:=fun v σ H Q=>to σ H fun o H1=>ti σ H1 fun i H2=>t o i v H2 fun H3=>Q σ H3
theorem yG {o i:am7} {to ti:TE} {t:yF} (ho:PE X o to) (hi:PE X i ti) (hs:Kc X t)
 (ha:∀ v,assign (.Subscript o i pos) X.env v=(do
   let ov <- holding [v] (eval o X.env)
   let iv <- holding [v,ov] (eval i X.env)
   asW pos
   holding [v,ov,iv] (setItem ov iv v)
   release [v,ov,iv] []):=by intro _;rfl):PG X (.Subscript o i pos) (Kd to ti t):=by
 intro pins s σ H v u Q I r h
 rw[ha]
 refine ak1 (al6 (aC (ho pins s σ H _ I h) fun ov s1 ⟨x,H1,I1,r1,q1⟩=>?_))
 refine ak1 (al6 (aC (hi pins s1 σ H1 _ I1 q1) fun iv s2 ⟨y,H2,I2,r2,q2⟩=>?_))
 refine ak1 (aro (ak1 (al6 (aC (hs pins s2 σ H2 x y v ov iv u _ I2 r1 r2 r q2) fun _ s3 ⟨H3,I3,q3⟩=>?_))))
 exact wpAny_release ⟨σ,H3,I3,q3⟩
noncomputable def yH (te:TE) (g:TG):TS:=fun D σ H=>te σ H fun x H1=>g x σ H1 D.nx
theorem vy {tg e:am7} {te:TE} {g:TG} (he:PE X e te) (hg:PG X tg g) (hs:swapsWithSole [tg] e pos.line X.env=pure false:=by rfl) (hw:swappedStores [tg] e X.env=pure none:=by rfl)
 (h1:(apN [tg] X.env).map (·.2)=[assign tg X.env]:=by rfl):PS X (.Assign [tg] e pos) (yH te g):=by
 intro pins s σ H D I h
 refine wpAny_Assign_stores (aC (he pins s σ H _ I h) fun v s1 ⟨x,H1,I1,r1,q1⟩=>?_) hs hw
 rw[h1]
 exact aC (hg pins s1 σ H1 x v _ I1 r1 q1) fun _ s2 q=>q
theorem aD {i:Nat} {x:Str} {e:am7} {te:TE} {pos':Pos} (hN:X.N.Nodup) (hi:X.N[i]?=some x) (hx:Loc X.env.scope x) (he:PE X e te) (hs:aqy e (some (.Name x pos')) pos.line X.env=pure false:=by rfl) (hf:X.fn x=true∨X.env.scope.names.lookup x=some .local:=by first|exact .inl rfl|exact .inr rfl|assumption) :
 PS X (.Assign [.Name x pos'] e pos) (yH te (de i)):=by
 intro pins s σ H D I h
 refine wpAny_Assign_Name (aC (he pins s σ H _ I h) fun v s1 ⟨y,H1,I1,r1,q1⟩=>?_) hs
 exact JQ I1 hN hi hx r1 (fun s2 I2=>⟨_,H1,I2,q1⟩) hf
end
section
variable {X:Cx} {pos:Pos}
end
structure It where
 go:Nat->Hp->Prop
 yld:Nat->Hp->V->Hp->Prop
 stop:Nat->Hp->Prop
noncomputable def cW (X:Cx) (pins:List (ala × Obj)) (H:Hp) (b:ala):Prop :=
 H b=none/\b≠X.env.locals/\b∉X.fs/\(b∈X.ex∨X.s₀.heap.objs.size<=b)/\(∀ x c,X.env.cells.lookup x=some c->c≠b)/\∀ p∈X.pn++pins,p.1≠b
theorem Inv.fL {X:Cx} {pins:List (ala × Obj)} {σ:St} {H H':Hp} {s:ak7} {b:ala} (I:Inv X pins σ H s) (hb:s.heap.objs.size<=b) (hn:H' b=none):cW X pins H' b:=by
 refine⟨hn,amj (alC I.lt hb),I.yA hb,.inr (alp I.sz hb),fun x c e z=>?_,fun p hp z=>?_⟩
 ·obtain⟨v,q⟩:=I.cell x c e
  exact absurd (alC q.lt (by rw[z];exact hb)) (amL _)
 ·exact absurd (alC (alb (I.pin p hp).1) (by rw[z];exact hb)) (amL _)
structure Turn (P:alr) (w:alS) (K:ak2) (tg:am7) (J:It) (fp:List ala) (it:ala) (tn:Nat->amH->Prop):Prop where
 mem:it∈fp
 obj:∀ i h,tn i h->∀ b∈fp,∃ o,h.get? b=some o/\∀ v,o.data ≠ .cell v
 keep:∀ i h h',tn i h->(∀ b∈fp,∀ o,h.get? b=some o->h'.get? b=some o)->tn i h'
 item:∀ (X:Cx),X.prog=P->X.w=w->X.K=K->X.calm=true->∀ (i:Nat) (pins:List (ala × Obj)) (s:ak7) (σ:St) (H:Hp) (E:ak3->ak7->Prop),Inv X pins σ H s->(∀ b∈fp,cW X pins H b)->tn i s.heap->J.go i H ->
  alu (model P w) X.A (anu (.ref it)) (fun r s1=>∃ u,r=some u /\
   alu (model P w) X.A (anV tg (.ref it) u) (fun _ s2=>∃ x H',Inv X pins σ H' s2/\RelV x u/\J.yld i H x H'/\tn (i+1) s2.heap/\∀ b∈fp,H' b=none) E s1) E s
 done:∀ (X:Cx),X.prog=P->X.w=w->X.K=K->X.calm=true->∀ (i:Nat) (pins:List (ala × Obj)) (s:ak7) (σ:St) (H:Hp) (E:ak3->ak7->Prop),Inv X pins σ H s->(∀ b∈fp,cW X pins H b)->tn i s.heap->J.stop i H ->
  alu (model P w) X.A (anu (.ref it)) (fun r s1=>r=none/\Inv X pins σ H s1) E s
 self:∀ (A:alY) (i:Nat) (s:ak7) (Q:ak3->ak7->Prop) (E:ak3->ak7->Prop),tn i s.heap->Q (.ref it) s->alu (model P w) A (as8 (.ref it)) Q E s
noncomputable abbrev TI:=St->Hp->(It->Hp->Prop)->Prop
noncomputable def Ke (X:Cx) (pins:List (ala × Obj)) (σ:St) (tg:am7) (R:It->Hp->Prop) (rQ:ak3) (s2:ak7):Prop :=
 ∃ (it:ala) (fp:List ala) (tn:Nat->amH->Prop) (J:It) (H':Hp),rQ = .ref it/\Inv X pins σ H' s2/\Turn X.prog X.w X.K tg J fp it tn/\tn 0 s2.heap/\(∀ b∈fp,cW X pins H' b)/\R J H'
noncomputable def PI (X:Cx) (tg iter:am7) (wi:TI):Prop :=
 ∀ (pins:List (ala × Obj)) (s:ak7) (σ:St) (H:Hp) (R:It->Hp->Prop),Inv X pins σ H s->wi σ H R ->
  alu (model X.prog X.w) X.A (eval iter X.env) (fun v s1=>alu (model X.prog X.w) X.A (as8 v) (Ke X pins σ tg R) X.xe s1) X.xe s
theorem n4 {M:Model} {A:alY} {E:ak3->ak7->Prop} {s:ak7} {tg:am7} {it:ala} {u:ak3} {o:Obj} {n:String} {vs:Array ak3} {Q:Unit->ak7->Prop} (ho:s.heap.get? it=some o) (hc:o.cls = .type n) (hd:o.data = .fields vs)
 (hn:["enumerate","zip","dict_itemiterator","dict_reverseitemiterator","odict_iterator","itertools.zip_longest","itertools.pairwise"].contains n=false) (hQ:Q () s):alu M A (anV tg (.ref it) u) Q E s:=by
 unfold anV
 cases tg<;>first
  | exact ak6 hQ
  | (cases u<;>first
      | exact ak6 hQ
      | (refine ak1 (wpAny_load ho ?_)
         rw[hc,hd]
         show alu M A (if (["enumerate","zip","dict_itemiterator","dict_reverseitemiterator","odict_iterator","itertools.zip_longest","itertools.pairwise"].contains n && vs[0]? == some (aoB _))=true then _ else _) Q E s
         rw[if_neg (by intro h;rw[hn,apE] at h;cases h)]
         exact ak6 hQ))
noncomputable def iu (K:ak2) (a:ala):It :=
 ⟨fun i H=>∃ xs x,ah K H a xs/\xs[i]?=some x,fun i H x H'=>H'=H/\∀ xs,ah K H a xs->xs[i]?=some x,fun i H=>∃ xs,ah K H a xs/\xs.length<=i⟩
noncomputable def rR (K:ak2) (a:ala):It :=
 ⟨fun i H=>∃ xs x,aj K H a xs/\xs[i]?=some x,fun i H x H'=>H'=H/\∀ xs,aj K H a xs->xs[i]?=some x,fun i H=>∃ xs,aj K H a xs/\xs.length<=i⟩
noncomputable def gN (lo:Int) (n:Nat):It:=⟨fun i _=>i<n,fun i H x H'=>H'=H/\x = .int (lo+i),fun i _=>n<=i⟩
theorem Sq {P:alr} {w:alS} {K:ak2} {tg:am7} (a it:ala):Turn P w K tg (iu K a) [it] it (fun i h=>h.IsListIter it a i) where
 mem:=by simp
 obj:=fun i h st b hb=>by
  have e:b=it:=by simpa using hb
  subst e
  obtain⟨o,e,c,d⟩:=st
  exact⟨o,e,fun v z=>by rw[d] at z;cases z⟩
 keep:=fun i h h' st k=>st.at fun o e=>k it (by simp) o e
 item:=by
  intro X hP hw hK hc i pins s σ H E I hf st hg
  subst hP hw hK
  obtain⟨xs,x,hq,hx⟩:=hg
  obtain⟨ai,rv,p,hz⟩:=I.list hq
  obtain⟨u,hu,ru⟩:=rv.get hx
  obtain⟨f0,f1,f2,f3,f4,f5⟩:=hf it (by simp)
  refine wpAny_pyNext_list_item st p.isList (x:=u) (by simpa using hu) fun h' b0 sb=>?_
  have I1:Inv X pins σ H { s with heap:=h' }:=I.turned (t':=s.toks) (fun b o hb e=>(sb.2 b hb).trans e) f0 f1 f3 f4 f5
  obtain⟨o,e,c,d⟩:=id b0
  exact⟨u,rfl,n4 (s:={ s with heap:=h' }) e c d (by decide) ⟨x,H,I1,ru,⟨rfl,fun ys hy=>by rw[I.rP hy hq];exact hx⟩,b0,fun b hb=>(hf b hb).1⟩⟩
 done:=by
  intro X hP hw hK hc i pins s σ H E I hf st hg
  subst hP hw hK
  obtain⟨xs,hq,hx⟩:=hg
  obtain⟨ai,rv,p,hz⟩:=I.list hq
  obtain⟨f0,f1,f2,f3,f4,f5⟩:=hf it (by simp)
  have hl:=rv.length
  exact wpAny_pyNext_list_end (I.ok.hd hc) st p.isList (by simp;omega) fun h' eb=>⟨rfl,I.turned (t':=s.toks) (fun b o hb e=>eb b o hb e) f0 f1 f3 f4 f5⟩
 self:=fun _ _ _ _ _ st h=>wpAny_pyIter_listiter st h
theorem Sr {P:alr} {w:alS} {K:ak2} {tg:am7} (a it:ala):Turn P w K tg (rR K a) [it] it (fun i h=>h.IsTupleIter it a i) where
 mem:=by simp
 obj:=fun i h st b hb=>by
  have e:b=it:=by simpa using hb
  subst e
  obtain⟨o,e,c,d⟩:=st
  exact⟨o,e,fun v z=>by rw[d] at z;cases z⟩
 keep:=fun i h h' st k=>st.at fun o e=>k it (by simp) o e
 item:=by
  intro X hP hw hK hc i pins s σ H E I hf st hg
  subst hP hw hK
  obtain⟨xs,x,hq,hx⟩:=hg
  obtain⟨ai,rv,p,hz⟩:=I.tuple hq
  obtain⟨u,hu,ru⟩:=rv.get hx
  obtain⟨f0,f1,f2,f3,f4,f5⟩:=hf it (by simp)
  refine wpAny_pyNext_tuple_item st (show s.heap.IsTuple a ai.toArray from p) (x:=u) (by simpa using hu) fun h' b0 sb=>?_
  have I1:Inv X pins σ H { s with heap:=h' }:=I.turned (t':=s.toks) (fun b o hb e=>(sb.2 b hb).trans e) f0 f1 f3 f4 f5
  obtain⟨o,e,c,d⟩:=id b0
  exact⟨u,rfl,n4 (s:={ s with heap:=h' }) e c d (by decide) ⟨x,H,I1,ru,⟨rfl,fun ys hy=>by rw[I.So hy hq];exact hx⟩,b0,fun b hb=>(hf b hb).1⟩⟩
 done:=by
  intro X hP hw hK hc i pins s σ H E I hf st hg
  subst hP hw hK
  obtain⟨xs,hq,hx⟩:=hg
  obtain⟨ai,rv,p,hz⟩:=I.tuple hq
  obtain⟨f0,f1,f2,f3,f4,f5⟩:=hf it (by simp)
  have hl:=rv.length
  exact wpAny_pyNext_tuple_end (I.ok.hd hc) st (show s.heap.IsTuple a ai.toArray from p) (by simp;omega) fun h' eb=>⟨rfl,I.turned (t':=s.toks) (fun b o hb e=>eb b o hb e) f0 f1 f3 f4 f5⟩
 self:=fun _ _ _ _ _ st h=>wpAny_pyIter_tupleiter st h
theorem Ss {P:alr} {w:alS} {K:ak2} {tg:am7} (it:ala) (lo:Int) (n:Nat):Turn P w K tg (gN lo n) [it] it (fun i h=>ara h it (lo+(i:Nat) * 1) ((n:Int)-(i:Nat)) 1) where
 mem:=by simp
 obj:=fun i h st b hb=>by
  have e:b=it:=by simpa using hb
  subst e
  exact⟨_,st,fun v z=>by
   have z':Data.fields _=Data.cell v:=z
   cases z'⟩
 keep:=fun i h h' st k=>k it (by simp) _ st
 item:=by
  intro X hP hw hK hc i pins s σ H E I hf st hg
  subst hP hw hK
  obtain⟨f0,f1,f2,f3,f4,f5⟩:=hf it (by simp)
  have W:=Walks.range (prog:=X.prog) (w:=X.w) (I.ok.hd hc) it lo 1 n
  refine W.item i s _ _ hg st fun v h' tk hv b0 kk=>?_
  obtain⟨t,rfl⟩:=hv
  have I1:Inv X pins σ H { s with heap:=h',toks:=tk }:=I.turned (fun b o hb e=>kk b o (by simpa using hb) e) f0 f1 f3 f4 f5
  refine⟨_,rfl,n4 (s:={ s with heap:=h',toks:=tk }) (n := "range_iterator") b0 rfl rfl (by decide) ⟨.int (lo+i),H,I1,⟨t,?_⟩,⟨rfl,rfl⟩,b0,fun b hb=>(hf b hb).1⟩⟩
  rw[Int.mul_one]
 done:=by
  intro X hP hw hK hc i pins s σ H E I hf st hg
  subst hP hw hK
  obtain⟨f0,f1,f2,f3,f4,f5⟩:=hf it (by simp)
  exact aqh (I.ok.hd hc) st (by have:n<=i:=hg;omega) fun h' eb=>⟨rfl,I.turned (t':=s.toks) (fun b o hb e=>eb b o hb e) f0 f1 f3 f4 f5⟩
 self:=fun _ _ _ _ _ st h=>aqi st h
end L2
namespace L2
open PySem PySem.Spec PyProof.Rows
section
variable {X:Cx} {tg:am7}
noncomputable def yI (K:ak2) (tl:TE):TI:=fun σ H R=>tl σ H fun x H1=>∃ a,x = .ref a/\(∃ xs,ah K H1 a xs)/\R (iu K a) H1
noncomputable def yJ (K:ak2) (tl:TE):TI:=fun σ H R=>tl σ H fun x H1=>∃ a,x = .ref a/\(∃ xs,aj K H1 a xs)/\R (rR K a) H1
theorem eI {l:am7} {tl:TE} (hl:PE X l tl):PI X tg l (yI X.K tl):=by
 intro pins s σ H R I h
 refine aC (hl pins s σ H _ I h) fun v s1 ⟨x,H1,I1,r1,q1⟩=>?_
 obtain⟨a,e,⟨xs,hq⟩,q⟩:=q1
 subst e
 cases r1
 obtain⟨ai,rv,p,hz⟩:=I1.list hq
 refine arB p.isList ?_
 refine⟨s1.heap.objs.size,[s1.heap.objs.size],_,_,H1,rfl,I1.kept (t':=s1.toks) fun b o e=>ak5 _ e,Sq a _,⟨_,aln _ rfl,rfl,rfl⟩,fun b hb=>?_,q⟩
 have e:b=s1.heap.objs.size:=by simpa using hb
 subst e
 exact I1.fL (alm _) (I1.ao.fresh (alm _))
theorem yK {l:am7} {tl:TE} (hl:PE X l tl):PI X tg l (yJ X.K tl):=by
 intro pins s σ H R I h
 refine aC (hl pins s σ H _ I h) fun v s1 ⟨x,H1,I1,r1,q1⟩=>?_
 obtain⟨a,e,⟨xs,hq⟩,q⟩:=q1
 subst e
 cases r1
 obtain⟨ai,rv,p,hz⟩:=I1.tuple hq
 refine arp (show s1.heap.IsTuple a ai.toArray from p) ?_
 refine⟨s1.heap.objs.size,[s1.heap.objs.size],_,_,H1,rfl,I1.kept (t':=s1.toks) fun b o e=>ak5 _ e,Sr a _,⟨_,aln _ rfl,rfl,rfl⟩,fun b hb=>?_,q⟩
 have e:b=s1.heap.objs.size:=by simpa using hb
 subst e
 exact I1.fL (alm _) (I1.ao.fresh (alm _))
theorem Kf {pins:List (ala × Obj)} {σ:St} {H:Hp} {s:ak7} {R:It->Hp->Prop} {E:ak3->ak7->Prop} {lo hi:Int} {t u v:Tok} {tk:Nat} (I:Inv X pins σ H s) (h1 : -(2 ^ 62)<=lo) (h2:lo<2 ^ 62) (h3 : -(2 ^ 62)<=hi) (h4:hi<2 ^ 62)
 (q:R (gN lo (hi-lo).toNat) H):alu (model X.prog X.w) X.A (as8 (.ref s.heap.objs.size)) (Ke X pins σ tg R) E { s with heap:=s.heap.push { cls:=.type "range",data:=.fields #[.int lo t,.int hi u,.int 1 v] },toks:=tk }:=by
 refine arq (IsRange.new ..) (small_one h1 h2 h3 h4) ?_
 have I1:Inv X pins σ H { s with heap:=s.heap.push { cls:=.type "range",data:=.fields #[.int lo t,.int hi u,.int 1 v] },toks:=tk }:=I.kept fun b o e=>ak5 _ e
 refine⟨(s.heap.push { cls:=.type "range",data:=.fields #[.int lo t,.int hi u,.int 1 v] }).objs.size,[(s.heap.push { cls:=.type "range",data:=.fields #[.int lo t,.int hi u,.int 1 v] }).objs.size],_,_,H,rfl,
  I1.kept (t':=tk) fun b o e=>ak5 _ e,Ss _ lo (hi-lo).toNat,?_,fun b hb=>?_,q⟩
 ·have e1:lo+((0:Nat):Int) * 1=lo:=by simp
  have e2:(((hi-lo).toNat:Nat):Int)-((0:Nat):Int)=amf lo hi 1:=by rw[rangeSize_one];split<;>omega
  show ara _ _ (lo+((0:Nat):Int) * 1) ((((hi-lo).toNat:Nat):Int)-((0:Nat):Int)) 1
  rw[e1,e2]
  exact aln _ rfl
 ·have e:b=(s.heap.push { cls:=.type "range",data:=.fields #[.int lo t,.int hi u,.int 1 v] }).objs.size:=by simpa using hb
  subst e
  exact I1.fL (alm _) (I1.ao.fresh (alm _))
noncomputable def yL (ta:TA):TI:=fun σ H R=>ta σ H fun vs H1=>∃ j:Int,vs=[.int j]/\-(2 ^ 62)<=j/\j<2 ^ 62/\R (gN 0 j.toNat) H1
noncomputable def yM (ta:TA):TI:=fun σ H R=>ta σ H fun vs H1=>∃ i j:Int,vs=[.int i,.int j]/\(-(2 ^ 62)<=i/\i<2 ^ 62/\-(2 ^ 62)<=j/\j<2 ^ 62)/\R (gN i (j-i).toNat) H1
theorem fM {a:am7} {ta:TA} {p pos:Pos} (hg:Gl X "range") (hm:X.mg "range" = none) (ha:PA X [a] ta) (hs:alM [a] X.env=[(false,eval a X.env)]:=by rfl):PI X tg (.Call (.Name "range" p) [a] [] pos) (yL ta):=by
 intro pins s σ H R I h
 refine atl (eW I hg hm asP (alW (aC (ha pos pins s σ H _ I h) fun us s1 ⟨vs,H1,I1,r1,q1⟩=>?_) hs rfl))
 obtain⟨j,e,q1,q2,q⟩:=q1
 subst e
 cases r1 with
 | cons r rr =>
  cases rr
  obtain⟨t,rfl⟩:=r
  exact call_range_1 (Kf I1 (by omega) (by omega) q1 q2 (by simpa using q))
theorem Su {a b:am7} {ta:TA} {p pos:Pos} (hg:Gl X "range") (hm:X.mg "range" = none) (ha:PA X [a,b] ta) (hs:alM [a,b] X.env=[(false,eval a X.env),(false,eval b X.env)]:=by rfl) (cN:alM [b] X.env=[(false,eval b X.env)]:=by rfl) :
 PI X tg (.Call (.Name "range" p) [a,b] [] pos) (yM ta):=by
 intro pins s σ H R I h
 refine atl (eW I hg hm asP (alW (aC (ha pos pins s σ H _ I h) fun us s1 ⟨vs,H1,I1,r1,q1⟩=>?_) (by rw[hs,cN]) (by rw[cN];rfl)))
 obtain⟨i,j,e,⟨q1,q2,q3,q4⟩,q⟩:=q1
 subst e
 cases r1 with
 | cons r rr =>
  cases rr with
  | cons r' rr =>
   cases rr
   obtain⟨t,rfl⟩:=r
   obtain⟨t',rfl⟩:=r'
   exact call_range_2 (Kf I1 q1 q2 q3 q4 q)
noncomputable def ix (wi:TI) (g:TG) (tb:TS):TS:=fun D σ H=>wi σ H fun J H1=>∃ W:Nat->Nat->St->Hp->Prop,(∃ m,W 0 m σ H1)/\∀ i m σ H,W i m σ H ->
 (J.stop i H/\D.nx σ H)∨(J.go i H/\∃ N:St->Hp->Prop,(∀ σ' H',N σ' H'->∃ m',m'<m/\W (i+1) m' σ' H')/\∀ x H',J.yld i H x H'->g x σ H' fun σ2 H2=>tb { D with nx:=N,ct:=N,bk:=D.nx } σ2 H2)
noncomputable def n5 (fp:List ala) (h:amH):List (ala × Obj):=fp.filterMap fun b=>(h.get? b).map fun o=>(b,o)
theorem n6 {fp:List ala} {h:amH} {b:ala} {o:Obj} (hb:b∈fp) (e:h.get? b=some o):(b,o)∈n5 fp h:=apu.mpr ⟨b,hb,by rw[e];rfl⟩
theorem Sv {fp:List ala} {h:amH} {p:ala × Obj} (hp:p∈n5 fp h):p.1∈fp/\h.get? p.1=some p.2:=by
 obtain⟨b,hb,e⟩:=apu.mp hp
 cases q:h.get? b with
 | none=>rw[q] at e;cases e
 | some o =>
  rw[q] at e
  have e':(b,o)=p:=Option.some.inj e
  subst e'
  exact⟨hb,q⟩
theorem Inv.pinned {pins:List (ala × Obj)} {σ:St} {H:Hp} {s:ak7} {fp:List ala} (I:Inv X pins σ H s) (hf:∀ b∈fp,cW X pins H b) (ho:∀ b∈fp,∃ o,s.heap.get? b=some o/\∀ v,o.data ≠ .cell v):Inv X (pins++n5 fp s.heap) σ H s :=
 I.kD fun p hp=>(alK.mp hp).elim (fun z=>I.pin p (alq _ z)) fun z=>by
  obtain⟨hb,e⟩:=Sv z
  obtain⟨f0,f1,f2,_⟩:=hf p.1 hb
  obtain⟨o,e',d⟩:=ho p.1 hb
  rw[e] at e';cases e'
  exact⟨e,f0,f1,f2,d⟩
theorem Inv.vz {pins pl:List (ala × Obj)} {σ:St} {H:Hp} {s:ak7} (I:Inv X (pins++pl) σ H s):Inv X pins σ H s:=I.kD fun p hp=>I.pin p (alq _ (amE _ hp))
theorem cO {iter:am7} {body:List anD} {wi:TI} {g:TG} {tb:TS} {pos:Pos} (hp:PassesOwn (model X.prog X.w) X.A X.env X.xe) (hc:X.calm=true) (hi:PI X tg iter wi) (hg:PG X tg g) (hb:bw X body tb)
 (hs:∀ x,aoI iter X.env x=pure x:=by intro _;rfl):PS X (.For tg iter body [] pos) (ix wi g tb):=by
 intro pins s σ H D I h
 refine wpAny_For (aC (hi pins s σ H _ I h) fun v s1 h1=>aC h1 fun rQ s2 h2=>?_) hs
 obtain⟨it,fp,tn,J,H2,e,I2,T,eX,f2,W,⟨m0,w0⟩,turn⟩:=h2
 subst e
 have yN:∀ {H':Hp},(∀ b∈fp,H' b=none)->∀ b∈fp,cW X pins H' b:=fun hn b hb=>⟨hn b hb,(f2 b hb).2⟩
 refine codeAny_forLoop_any (fun n s'=>∃ i σ' H',Inv X pins σ' H' s'/\tn i s'.heap/\(∀ b∈fp,H' b=none)/\W i n σ' H') ?_ m0 ⟨0,σ,H2,I2,eX,fun b hb=>(f2 b hb).1,w0⟩
 rintro n s3 ⟨i,σ3,H3,I3,jN,jO,w3⟩
 rcases turn i n σ3 H3 w3 with ⟨stop,qn⟩|⟨go,N,hN,step⟩
 ·refine aot hp (aC (T.done X rfl rfl rfl hc i pins s3 σ3 H3 X.xe I3 (yN jO) jN stop) fun r s4 ⟨hr,I4⟩=>?_)
  subst hr
  exact aqx ⟨σ3,H3,I4,qn⟩
 ·refine aot hp (aC (T.item X rfl rfl rfl hc i pins s3 σ3 H3 X.xe I3 (yN jO) jN go) fun r s4 ⟨u,hr,h4⟩=>?_)
  subst hr
  refine aot hp (aC h4 fun _ s5 ⟨x,H5,I5,r5,y5,gO,rS⟩=>?_)
  have rT:=I5.pinned (yN rS) (T.obj _ _ gO)
  refine aot hp (aC (hg _ s5 σ3 H5 x u _ rT r5 (step x H5 y5)) fun _ s6 ⟨σ6,H6,I6,q6⟩=>?_)
  refine aot hp (aC (hb _ s6 σ6 H6 _ I6 q6) fun f s7 q7=>?_)
  have again:∀ {σ7:St} {H7:Hp},Inv X (pins++n5 fp s5.heap) σ7 H7 s7->N σ7 H7->∃ m,m<n/\∃ i σ' H',Inv X pins σ' H' s7/\tn i s7.heap/\(∀ b∈fp,H' b=none)/\W i m σ' H':=fun {σ7 H7} I7 n7=>by
   obtain⟨m',hm,w7⟩:=hN σ7 H7 n7
   refine⟨m',hm,i+1,σ7,H7,I7.vz,T.keep _ _ _ gO fun b hb o e=>(I7.pin (b,o) (alq _ (alq _ (n6 hb e)))).1,fun b hb=>?_,w7⟩
   obtain⟨o,e,d⟩:=T.obj _ _ gO b hb
   exact (I7.pin (b,o) (alq _ (alq _ (n6 hb e)))).2.1
  cases f with
  | next=>obtain⟨σ7,H7,I7,n7⟩:=q7;exact again I7 n7
  | cont=>obtain⟨σ7,H7,I7,n7⟩:=q7;exact again I7 n7
  | brk=>obtain⟨σ7,H7,I7,q7⟩:=q7;exact⟨σ7,H7,I7.vz,q7⟩
  | ret v=>obtain⟨x7,σ7,H7,I7,r7,q7⟩:=q7;exact⟨x7,σ7,H7,I7.vz,r7,q7⟩
end
theorem Sw {K:ak2} {a:ala} {xs:List V} {g:TG} {tb:TS} {D:Ends} {σ:St} {H:Hp} (Pv:Nat->St->Hp->Prop) (h0:Pv 0 σ H) (hl:∀ i σ H,i<=xs.length->Pv i σ H->ah K H a xs)
 (hs:∀ i x σ H,xs[i]?=some x->Pv i σ H->g x σ H fun σ2 H2=>tb { D with nx:=Pv (i+1),ct:=Pv (i+1),bk:=D.nx } σ2 H2) (hd:∀ σ H,Pv xs.length σ H->D.nx σ H) :
 ∃ W:Nat->Nat->St->Hp->Prop,(∃ m,W 0 m σ H)/\∀ i m σ H,W i m σ H ->
  ((iu K a).stop i H/\D.nx σ H)∨((iu K a).go i H/\∃ N:St->Hp->Prop,(∀ σ' H',N σ' H'->∃ m',m'<m/\W (i+1) m' σ' H')/\∀ x H',(iu K a).yld i H x H'->g x σ H' fun σ2 H2=>tb { D with nx:=N,ct:=N,bk:=D.nx } σ2 H2):=by
 refine⟨fun i m σ H=>m=xs.length-i/\i<=xs.length/\Pv i σ H,⟨xs.length,by simp,alv _,h0⟩,?_⟩
 rintro i m σ H ⟨rfl,hi,p⟩
 have q:=hl i σ H hi p
 by_cases ba:i<xs.length
 ·refine .inr ⟨⟨xs,xs[i],q,by simp[ba]⟩,Pv (i+1),fun σ' H' p'=>⟨xs.length-(i+1),by omega,rfl,ba,p'⟩,fun x H' y=>?_⟩
  obtain⟨e,y⟩:=y
  subst e
  exact hs i x σ _ (y xs q) p
 ·have e:i=xs.length:=by omega
  subst e
  exact .inl ⟨⟨xs,q,alm _⟩,hd σ H p⟩
theorem Sx {lo:Int} {n:Nat} {g:TG} {tb:TS} {D:Ends} {σ:St} {H:Hp} (Pv:Nat->St->Hp->Prop) (h0:Pv 0 σ H)
 (hs:∀ i σ H,i<n->Pv i σ H->g (.int (lo+i)) σ H fun σ2 H2=>tb { D with nx:=Pv (i+1),ct:=Pv (i+1),bk:=D.nx } σ2 H2) (hd:∀ σ H,Pv n σ H->D.nx σ H) :
 ∃ W:Nat->Nat->St->Hp->Prop,(∃ m,W 0 m σ H)/\∀ i m σ H,W i m σ H ->
  ((gN lo n).stop i H/\D.nx σ H)∨((gN lo n).go i H/\∃ N:St->Hp->Prop,(∀ σ' H',N σ' H'->∃ m',m'<m/\W (i+1) m' σ' H')/\∀ x H',(gN lo n).yld i H x H'->g x σ H' fun σ2 H2=>tb { D with nx:=N,ct:=N,bk:=D.nx } σ2 H2):=by
 refine⟨fun i m σ H=>m=n-i/\i<=n/\Pv i σ H,⟨n,by simp,alv _,h0⟩,?_⟩
 rintro i m σ H ⟨rfl,hi,p⟩
 by_cases ba:i<n
 ·refine .inr ⟨ba,Pv (i+1),fun σ' H' p'=>⟨n-(i+1),by omega,rfl,ba,p'⟩,fun x H' y=>?_⟩
  obtain⟨e,y⟩:=y
  subst e y
  exact hs i σ _ ba p
 ·have e:i=n:=by omega
  subst e
  exact .inl ⟨alm _,hd σ H p⟩
end L2
namespace L2
open PySem PySem.Spec PyProof.Rows
noncomputable abbrev R2:=V->V->Hp->VK->Prop
noncomputable def bp (X:Cx) (f:ak3->ak3->Sem ak3) (r:R2):Prop :=
 ∀ (pins:List (ala × Obj)) (s:ak7) (σ:St) (H:Hp) (x y:V) (v u:ak3) (Q:VK),Inv X pins σ H s->RelV x v->RelV y u->r x y H Q ->
  alu (model X.prog X.w) X.A (f v u) (EP X pins σ Q) X.xe s
noncomputable def n9 (X:Cx) (f:ak3->Sem ak3) (r:V->Hp->VK->Prop):Prop :=
 ∀ (pins:List (ala × Obj)) (s:ak7) (σ:St) (H:Hp) (x:V) (v:ak3) (Q:VK),Inv X pins σ H s->RelV x v->r x H Q ->
  alu (model X.prog X.w) X.A (f v) (EP X pins σ Q) X.xe s
noncomputable def fN (X:Cx) (f:ak3) (r:List V->Hp->VK->Prop):Prop :=
 ∀ (pins:List (ala × Obj)) (s:ak7) (σ:St) (H:Hp) (xs:List V) (us:List ak3) (Q:VK),Inv X pins σ H s->Vals xs us->r xs H Q ->
  alu (model X.prog X.w) X.A (call f us) (EP X pins σ Q) X.xe s
noncomputable def kG (r:R2) (ta tb:TE):TE:=fun σ H Q=>ta σ H fun x H1=>tb σ H1 fun y H2=>r x y H2 Q
noncomputable def Kg (r:V->Hp->VK->Prop) (ta:TE):TE:=fun σ H Q=>ta σ H fun x H1=>r x H1 Q
noncomputable def rI (C:Int->Int->Prop) (g:Int->Int->V):R2:=fun x y H Q=>∃ i j,x = .int i/\y = .int j/\C i j/\Q (g i j) H
noncomputable def fO (g:Int->Int->V):R2:=fun x y H Q=>∃ i j,x = .int i/\y = .int j/\Q (g i j) H
noncomputable def rU (g:Int->V):V->Hp->VK->Prop:=fun x H Q=>∃ i,x = .int i/\Q (g i) H
section
variable {X:Cx} {a b c:am7} {ta tb tc:TE} {pos:Pos}
theorem yO (ha:PE X a ta) (hb:PE X b tb) {pins:List (ala × Obj)} {s:ak7} {σ:St} {H:Hp} {R:V->V->Hp->Prop} (I:Inv X pins σ H s)
 (h:ta σ H fun x H1=>tb σ H1 fun y H2=>R x y H2) {Q:ak3->ak7->Prop} {f:ak3->ak3->Sem ak3}
 (hf:∀ v u s2 x y H2,Inv X pins σ H2 s2->RelV x v->RelV y u->R x y H2->alu (model X.prog X.w) X.A (f v u) Q X.xe s2) :
 alu (model X.prog X.w) X.A (eval a X.env) (fun v s₁=>alu (model X.prog X.w) X.A (eval b X.env) (fun u s₂=>alu (model X.prog X.w) X.A (f v u) Q X.xe s₂) X.xe s₁) X.xe s:=by
 refine aC (ha pins s σ H _ I h) fun v s1 ⟨x,H1,I1,r1,q1⟩=>?_
 refine aC (hb pins s1 σ H1 _ I1 q1) fun u s2 ⟨y,H2,I2,r2,q2⟩=>?_
 exact hf v u s2 x y H2 I2 r1 r2 q2
theorem aE {op:Operator} {r:R2} (ho:bp X (aok op) r) (ha:PE X a ta) (hb:PE X b tb):PE X (.BinOp a op b pos) (kG r ta tb):=by
 intro pins s σ H Q I h
 exact wpAny_BinOp (yO ha hb I h fun v u s2 x y H2 I2 rx ry q=>ho pins s2 σ H2 x y v u Q I2 rx ry q)
theorem gk {op:UnaryOp} {r:V->Hp->VK->Prop} (ho:n9 X (unaryOp op) r) (ha:PE X a ta):PE X (.UnaryOp op a pos) (Kg r ta):=by
 intro pins s σ H Q I h
 exact UnaryOp_ (aC (ha pins s σ H _ I h) fun v s1 ⟨x,H1,I1,r1,q1⟩=>ho pins s1 σ H1 x v Q I1 r1 q1)
theorem vA {f:ak3->ak3->Sem ak3} {C:Int->Int->Prop} {g:Int->Int->Int}
 (rule:∀ (i j:Int) (t u:Tok) (s:ak7) (Q:ak3->ak7->Prop) (E:ak3->ak7->Prop),C i j->Q (.int (g i j) s.toks) { s with toks:=s.toks+1 }->alu (model X.prog X.w) X.A (f (.int i t) (.int j u)) Q E s) :
 bp X f (rI C fun i j=>.int (g i j)):=by
 intro pins s σ H x y v u Q I rx ry h
 obtain⟨i,j,rfl,rfl,hc,q⟩:=h
 obtain⟨t,rfl⟩:=rx
 obtain⟨t',rfl⟩:=ry
 exact rule i j t t' s _ _ hc ⟨.int (g i j),H,I.tok _,⟨_,rfl⟩,q⟩
theorem Kh {f:ak3->ak3->Sem ak3} {g:Int->Int->Int}
 (rule:∀ (i j:Int) (t u:Tok) (s:ak7) (Q:ak3->ak7->Prop) (E:ak3->ak7->Prop),Q (.int (g i j) s.toks) { s with toks:=s.toks+1 }->alu (model X.prog X.w) X.A (f (.int i t) (.int j u)) Q E s) :
 bp X f (fO fun i j=>.int (g i j)):=by
 intro pins s σ H x y v u Q I rx ry h
 obtain⟨i,j,rfl,rfl,q⟩:=h
 obtain⟨t,rfl⟩:=rx
 obtain⟨t',rfl⟩:=ry
 exact rule i j t t' s _ _ ⟨.int (g i j),H,I.tok _,⟨_,rfl⟩,q⟩
theorem yP {f:ak3->ak3->Sem ak3} {g:Int->Int->Bool}
 (rule:∀ (i j:Int) (t u:Tok) (s:ak7) (Q:ak3->ak7->Prop) (E:ak3->ak7->Prop),Q (.bool (g i j)) s->alu (model X.prog X.w) X.A (f (.int i t) (.int j u)) Q E s) :
 bp X f (fO fun i j=>.bl (g i j)):=by
 intro pins s σ H x y v u Q I rx ry h
 obtain⟨i,j,rfl,rfl,q⟩:=h
 obtain⟨t,rfl⟩:=rx
 obtain⟨t',rfl⟩:=ry
 exact rule i j t t' s _ _ ⟨.bl (g i j),H,I,rfl,q⟩
noncomputable def Sy (i j:Int):Prop:=0<=j/\j<=1000000/\i.natAbs<2 ^ 64
theorem Sz:bp X (aok .Add) (fO fun i j=>.int (i+j)):=Kh fun _ _ _ _ _ _ _ q=>add_int q
theorem SA:bp X (aok .Sub) (fO fun i j=>.int (i-j)):=Kh fun _ _ _ _ _ _ _ q=>sub_int q
theorem SD:bp X (aok .Mod) (rI (fun _ j=>0<j) fun i j=>.int (i % j)):=vA fun i j _ _ _ _ _ hc q=>by
 have h1:(0:Int)<j:=hc
 exact mod_int' (by omega) (by rw[Int.fmod_eq_emod_of_nonneg i (by omega)];exact q)
theorem rV:bp X (aok .Pow) (rI Sy fun i j=>.int (i ^ j.toNat)):=vA fun _ _ _ _ _ _ _ hc q=>pow_int_small hc.1 hc.2.1 hc.2.2 q
theorem SE {f:ak3->Sem ak3} {g:Int->Int}
 (rule:∀ (i:Int) (t:Tok) (s:ak7) (Q:ak3->ak7->Prop) (E:ak3->ak7->Prop),Q (.int (g i) s.toks) { s with toks:=s.toks+1 }->alu (model X.prog X.w) X.A (f (.int i t)) Q E s) :
 n9 X f (rU fun i=>.int (g i)):=by
 intro pins s σ H x v Q I rx h
 obtain⟨i,rfl,q⟩:=h
 obtain⟨t,rfl⟩:=rx
 exact rule i t s _ _ ⟨.int (g i),H,I.tok _,⟨_,rfl⟩,q⟩
theorem SF:n9 X (unaryOp .USub) (rU fun i=>.int (-i)):=SE fun _ _ _ _ _ q=>neg_int q
end
noncomputable def i4:V->V->Bool
 | .non,.non=>true|.non,.int _=>true|.int _,.non=>true|.non,.bl _=>true|.bl _,.non=>true|.non,.str _=>true|.str _,.non=>true
 | .int _,.int _=>true|.bl _,.bl _=>true|.str _,.str _=>true|.byt _,.byt _=>true
 | .int _,.str _=>true|.str _,.int _=>true|.bl _,.str _=>true|.str _,.bl _=>true
 | _,_=>false
noncomputable def Ki:R2:=fun x y H Q=>i4 x y=true/\Q (.bl (decide (x=y))) H
noncomputable def Kj:R2:=fun x y H Q=>i4 x y=true/\Q (.bl (!decide (x=y))) H
theorem Kk {i j:Int}:decide (V.int i=V.int j)=(i == j):=by
 rw[anW]
 simp
theorem Kl {i j:Bool}:decide (V.bl i=V.bl j)=(i == j):=by
 rw[anW]
 simp
theorem Km {i j:Str}:decide (V.str i=V.str j)=(i == j):=by
 rw[anW]
 simp
theorem Kn {i j:Array UInt8}:decide (V.byt i=V.byt j)=(i.toList == j.toList):=by
 rw[anW]
 cases i
 cases j
 simp
section
variable {X:Cx} {a b c:am7} {ta tb tc:TE} {pos:Pos}
theorem bY {pins:List (ala × Obj)} {σ:St} {H:Hp} {s:ak7} {Q:VK} {k k':Bool} (I:Inv X pins σ H s) (q:Q (.bl k) H) (e:k=k'):EP X pins σ Q (.bool k') s:=by
 subst e
 exact⟨.bl k,H,I,rfl,q⟩
theorem rW:bp X (amD .Eq) Ki:=by
 intro pins s σ H x y v u Q I rx ry h
 obtain⟨hs,q⟩:=h
 cases x with
 | non =>
  cases rx
  cases y with
  | non=>cases ry;exact PySem.EqNone.eq_none_none (bY I q (by simp))
  | bl j=>cases ry;exact PySem.EqNone.eq_none_bool (bY I q (by simp))
  | int j=>obtain⟨t',rfl⟩:=ry;exact PySem.EqNone.eq_none_int (bY I q (by simp))
  | str j=>obtain⟨t',rfl⟩:=ry;exact PySem.EqNone.eq_none_str (bY I q (by simp))
  | _=>exact absurd (show false=true from hs) alG
 | bl i =>
  cases rx
  cases y with
  | non=>cases ry;exact PySem.EqNone.eq_bool_none (bY I q (by simp))
  | bl j=>cases ry;exact eq_bool (bY I q Kl)
  | str j=>obtain⟨t',rfl⟩:=ry;exact PySem.EqMixed.eq_bool_str (bY I q (by simp))
  | _=>exact absurd (show false=true from hs) alG
 | int i =>
  obtain⟨t,rfl⟩:=rx
  cases y with
  | non=>cases ry;exact PySem.EqNone.eq_int_none (bY I q (by simp))
  | int j=>obtain⟨t',rfl⟩:=ry;exact eq_int (bY I q Kk)
  | str j=>obtain⟨t',rfl⟩:=ry;exact PySem.EqMixed.eq_int_str (bY I q (by simp))
  | _=>exact absurd (show false=true from hs) alG
 | str i =>
  obtain⟨t,rfl⟩:=rx
  cases y with
  | non=>cases ry;exact PySem.EqNone.eq_str_none (bY I q (by simp))
  | bl j=>cases ry;exact PySem.EqMixed.eq_str_bool (bY I q (by simp))
  | int j=>obtain⟨t',rfl⟩:=ry;exact PySem.EqMixed.eq_str_int (bY I q (by simp))
  | str j=>obtain⟨t',rfl⟩:=ry;exact eq_str (bY I q Km)
  | _=>exact absurd (show false=true from hs) alG
 | byt i =>
  obtain⟨t,rfl⟩:=rx
  cases y with
  | byt j=>obtain⟨t',rfl⟩:=ry;exact PySem.W.eq_bytes (bY I q Kn)
  | _=>exact absurd (show false=true from hs) alG
 | _=>cases y<;>exact absurd (show false=true from hs) alG
theorem SG:bp X (amD .NotEq) Kj:=by
 intro pins s σ H x y v u Q I rx ry h
 obtain⟨hs,q⟩:=h
 cases x with
 | non =>
  cases rx
  cases y with
  | non=>cases ry;exact PySem.EqNone.ne_none_none (bY I q (by simp))
  | bl j=>cases ry;exact PySem.EqNone.ne_none_bool (bY I q (by simp))
  | int j=>obtain⟨t',rfl⟩:=ry;exact PySem.EqNone.ne_none_int (bY I q (by simp))
  | str j=>obtain⟨t',rfl⟩:=ry;exact PySem.EqNone.ne_none_str (bY I q (by simp))
  | _=>exact absurd (show false=true from hs) alG
 | bl i =>
  cases rx
  cases y with
  | non=>cases ry;exact PySem.EqNone.ne_bool_none (bY I q (by simp))
  | bl j=>cases ry;exact ne_bool (bY I q (congrArg not Kl))
  | str j=>obtain⟨t',rfl⟩:=ry;exact PySem.EqMixed.ne_bool_str (bY I q (by simp))
  | _=>exact absurd (show false=true from hs) alG
 | int i =>
  obtain⟨t,rfl⟩:=rx
  cases y with
  | non=>cases ry;exact PySem.EqNone.ne_int_none (bY I q (by simp))
  | int j=>obtain⟨t',rfl⟩:=ry;exact ne_int (bY I q (congrArg not Kk))
  | str j=>obtain⟨t',rfl⟩:=ry;exact PySem.EqMixed.ne_int_str (bY I q (by simp))
  | _=>exact absurd (show false=true from hs) alG
 | str i =>
  obtain⟨t,rfl⟩:=rx
  cases y with
  | non=>cases ry;exact PySem.EqNone.ne_str_none (bY I q (by simp))
  | bl j=>cases ry;exact PySem.EqMixed.ne_str_bool (bY I q (by simp))
  | int j=>obtain⟨t',rfl⟩:=ry;exact PySem.EqMixed.ne_str_int (bY I q (by simp))
  | str j=>obtain⟨t',rfl⟩:=ry;exact ne_str (bY I q (congrArg not Km))
  | _=>exact absurd (show false=true from hs) alG
 | byt i =>
  obtain⟨t,rfl⟩:=rx
  cases y with
  | byt j=>obtain⟨t',rfl⟩:=ry;exact PySem.W.ne_bytes (bY I q (congrArg not Kn))
  | _=>exact absurd (show false=true from hs) alG
 | _=>cases y<;>exact absurd (show false=true from hs) alG
theorem rX:bp X (amD .Lt) (fO fun i j=>.bl (decide (i<j))):=yP fun _ _ _ _ _ _ _ q=>lt_int q
theorem gn:bp X (amD .LtE) (fO fun i j=>.bl (decide (i<=j))):=yP fun _ _ _ _ _ _ _ q=>le_int q
theorem vB:bp X (amD .Gt) (fO fun i j=>.bl (decide (j<i))):=yP fun _ _ _ _ _ _ _ q=>gt_int q
theorem dW (b:am7) {op:asV} (h:op ≠ .In:=by decide) (h2:op ≠ .NotIn:=by decide):ant op b=false:=by
 have e1:(op == CmpOp.In)=false:=by cases op<;>first|rfl|exact absurd rfl h
 have e2:(op == CmpOp.NotIn)=false:=by cases op<;>first|rfl|exact absurd rfl h2
 cases b<;>simp[ant,e1,e2]
theorem gP {op:asV} {r:R2} (ho:bp X (amD op) r) (ha:PE X a ta) (hb:PE X b tb) (hm:ant op b=false):PE X (.Compare a [op] [b] pos) (kG r ta tb):=by
 intro pins s σ H Q I h
 exact wpAny_Compare1 (yO ha hb I h fun v u s2 x y H2 I2 rx ry q=>ho pins s2 σ H2 x y v u Q I2 rx ry q) hm
noncomputable def yQ (t:TE):TT:=fun σ H Q=>t σ H fun x H'=>∃ k,x = .bl k/\Q k H'
theorem gp {op:asV} {r:R2} (ho:bp X (amD op) r) (ha:PE X a ta) (hb:PE X b tb) (hm:ant op b=false):PT X (.Compare a [op] [b] pos) (yQ (kG r ta tb)):=by
 intro pins s σ H Q I h
 refine aqw (aC (ha pins s σ H _ I h) fun v s1 ⟨x,H1,I1,r1,q1⟩=>aC (hb pins s1 σ H1 _ I1 q1) fun u s2 ⟨y,H2,I2,r2,q2⟩ =>
  aC (ho pins s2 σ H2 x y v u _ I2 r1 r2 q2) fun c s3 ⟨z,H3,I3,r3,k,e,q3⟩=>?_) hm
 subst e
 cases r3
 exact amh ⟨H3,I3,q3⟩
noncomputable def yR (r r':R2) (ta tb tc:TE):TE:=fun σ H Q=>ta σ H fun x H1=>tb σ H1 fun y H2=>r x y H2 fun z H3=>∃ k,z = .bl k /\
 (if k=true then tc σ H3 fun w' H4=>r' y w' H4 Q else Q (.bl false) H3)
theorem yS {op gQ:asV} {r r':R2} (ho:bp X (amD op) r) (cK:bp X (amD gQ) r') (ha:PE X a ta) (hb:PE X b tb) (hc:PE X c tc)
 (hm:as9 [op,gQ] [b,c]=false:=by with_unfolding_all rfl):PE X (.Compare a [op,gQ] [b,c] pos) (yR r r' ta tb tc):=by
 intro pins s σ H Q I h
 refine Compare_chain (aC (ha pins s σ H _ I h) fun v s1 ⟨x,H1,I1,r1,q1⟩=>chain_link (aC (hb pins s1 σ H1 _ I1 q1) fun u s2 ⟨y,H2,I2,r2,q2⟩ =>
  aC (ho pins s2 σ H2 x y v u _ I2 r1 r2 q2) fun d s3 ⟨z,H3,I3,r3,k,e,q3⟩=>?_)) hm
 subst e
 cases r3
 refine amh ?_
 cases k with
 | false=>exact ite_ff ⟨.bl false,H3,I3,rfl,q3⟩
 | true=>exact ite_tt (chain_last (aC (hc pins s3 σ H3 _ I3 q3) fun w' s4 ⟨z',H4,I4,r4,q4⟩=>cK pins s4 σ H4 y z' u w' Q I4 r2 r4 q4))
theorem SH {op gQ:asV} {r r':R2} (ho:bp X (amD op) r) (cK:bp X (amD gQ) r') (ha:PE X a ta) (hb:PE X b tb) (hc:PE X c tc)
 (hm:as9 [op,gQ] [b,c]=false:=by with_unfolding_all rfl):PT X (.Compare a [op,gQ] [b,c] pos) (yQ (yR r r' ta tb tc)):=by
 intro pins s σ H Q I h
 refine isTrue_chain (aC (ha pins s σ H _ I h) fun v s1 ⟨x,H1,I1,r1,q1⟩=>test_link (aC (hb pins s1 σ H1 _ I1 q1) fun u s2 ⟨y,H2,I2,r2,q2⟩ =>
  aC (ho pins s2 σ H2 x y v u _ I2 r1 r2 q2) fun d s3 ⟨z,H3,I3,r3,k,e,q3⟩=>?_)) hm
 subst e
 cases r3
 refine amh ?_
 cases k with
 | false =>
  obtain⟨k',e',q'⟩:=q3
  cases e'
  exact ite_ff ⟨H3,I3,q'⟩
 | true =>
  refine ite_tt (test_last (aC (hc pins s3 σ H3 _ I3 q3) fun w' s4 ⟨z',H4,I4,r4,q4⟩=>aC (cK pins s4 σ H4 y z' u w' _ I4 r2 r4 q4) fun d' s5 ⟨z2,H5,I5,r5,k2,e2,q5⟩=>?_))
  subst e2
  cases r5
  exact amh ⟨H5,I5,q5⟩
theorem rY:(alI:Nat)<2 ^ 63:=by rw[anj];decide
theorem vals1 {x:V} {us:List ak3} (r:Vals [x] us):∃ u,us=[u]/\RelV x u:=by
 cases r with
 | cons r1 r2=>cases r2;exact⟨_,rfl,r1⟩
theorem vals2 {x y:V} {us:List ak3} (r:Vals [x,y] us):∃ u w',us=[u,w']/\RelV x u/\RelV y w':=by
 cases r with
 | cons r1 r2 =>
  cases r2 with
  | cons r3 r4=>cases r4;exact⟨_,_,rfl,r1,r3⟩
theorem SJ (hc:X.calm=true):fN X (.builtin "max") (fun xs H Q=>∃ i j,xs=[.int i,.int j]/\Q (.int (if j > i then j else i)) H):=by
 intro pins s σ H xs us Q I r h
 obtain⟨i,j,rfl,q⟩:=h
 obtain⟨u,w',rfl,⟨t,rfl⟩,⟨t',rfl⟩⟩:=vals2 r
 refine max_two_ints (I.ok.hd hc) fun h' tk k=>⟨_,H,I.kept k,?_,q⟩
 by_cases hj:j > i
 ·rw[if_pos hj,if_pos hj];exact⟨_,rfl⟩
 ·rw[if_neg hj,if_neg hj];exact⟨_,rfl⟩
theorem vC (hc:X.calm=true):fN X (.builtin "min") (fun xs H Q=>∃ i j,xs=[.int i,.int j]/\Q (.int (if j<i then j else i)) H):=by
 intro pins s σ H xs us Q I r h
 obtain⟨i,j,rfl,q⟩:=h
 obtain⟨u,w',rfl,⟨t,rfl⟩,⟨t',rfl⟩⟩:=vals2 r
 refine min_two_ints (I.ok.hd hc) fun h' tk k=>⟨_,H,I.kept k,?_,q⟩
 by_cases hj:j<i
 ·rw[if_pos hj,if_pos hj];exact⟨_,rfl⟩
 ·rw[if_neg hj,if_neg hj];exact⟨_,rfl⟩
noncomputable def yT (K:ak2) (x:V) (H:Hp) (n:Nat):Prop :=
 match x with
 | .str y=>y.length<=alI/\n=y.length
 | .byt y=>y.size<=alI/\n=y.size
 | .ref p=>(∃ xs,ah K H p xs/\n=xs.length) ∨ ∃ xs,aj K H p xs/\n=xs.length
 | _=>False
theorem dA:fN X (.builtin "len") (fun xs H Q=>∃ x n,xs=[x]/\yT X.K x H n/\Q (.int n) H):=by
 intro pins s σ H xs us Q I r h
 obtain⟨x,n,rfl,e,q⟩:=h
 obtain⟨u,rfl,rx⟩:=vals1 r
 have hl:=rY
 have hs:alI=16777216:=anj
 cases x with
 | str y =>
  obtain⟨t,rfl⟩:=rx
  obtain⟨hy,e'⟩:y.length<=alI/\n=y.length:=e
  subst e'
  exact len_str (by omega) ⟨.int _,H,I.tok _,⟨_,rfl⟩,q⟩
 | byt y =>
  obtain⟨t,rfl⟩:=rx
  obtain⟨hy,e'⟩:y.size<=alI/\n=y.size:=e
  subst e'
  exact PySem.W.len_bytes (by omega) ⟨.int _,H,I.tok _,⟨_,rfl⟩,q⟩
 | ref p =>
  cases rx
  have e':(∃ xs,ah X.K H p xs/\n=xs.length) ∨ ∃ xs,aj X.K H p xs/\n=xs.length:=e
  rcases e' with ⟨xs,hx,e'⟩|⟨xs,hx,e'⟩
  ·subst e'
   obtain⟨ai,r',pl,hz⟩:=I.list hx
   have hlen:=r'.length
   exact Calls.call_len_list pl.isList (by simp only[alo];omega) ⟨.int xs.length,H,I.tok _,⟨_,by simp only[alo];rw[hlen]⟩,q⟩
  ·subst e'
   obtain⟨ai,r',pl,hz⟩:=I.tuple hx
   have hlen:=r'.length
   exact len_tuple pl (by simp only[alo];omega) ⟨.int xs.length,H,I.tok _,⟨_,by simp only[alo];rw[hlen]⟩,q⟩
 | _=>exact (show False from e).elim
end
end L2
namespace L2
open PySem PySem.Spec PyProof.Rows
structure kH (h:amH) (x dx C:ala) (mA:Str->Option ak3):Prop where
 obj:h.get? x=some (ani C dx)
 ns:h.Ns1 dx mA
 ne:dx≠x
theorem SK {h:amH} {dx:ala} {mA:Str->Option ak3} (n:h.Ns1 dx mA):∃ od,h.get? dx=some od/\∀ name,apF name od=some (mA name):=by
 obtain⟨o,es,ep,ho,hd,hk,_,hm⟩:=n
 refine⟨o,ho,fun name=>?_⟩
 have e:=hm name
 unfold nsFind findBy at e
 rw[<- Array.find?_toList] at e
 unfold apF
 rw[hd]
 dsimp only
 split
 ·rename_i y q
  rw[q] at e
  exact congrArg some e
 ·rename_i q
  rw[q] at e
  have a:es.toList.any (·.refKey)=false:=by
   rw[apO]
   intro y hy
   obtain⟨z,t,fP⟩:=hk y (Array.mem_toList_iff.mp hy)
   simp[DictEntry.refKey,fP]
  have a':¬ es.toList.any (·.refKey)=true:=by rw[a];exact alG
  rw[if_neg a']
  exact congrArg some e
theorem kH.look {h:amH} {x dx C:ala} {mA:Str->Option ak3} (I:kH h x dx C mA):∃ od,PySem.W.InstAt h x (ani C dx) C (some od)/\∀ name,apF name od=some (mA name) :=
 let ⟨od,ho,hl⟩:=SK I.ns
 ⟨od,⟨I.obj,rfl,rfl,ho⟩,hl⟩
section
variable {prog:alr} {w:alS} {A:alY} {E:ak3->ak7->Prop} {s:ak7} {K:ak2} {x dx C f:ala} {mA:Str->Option ak3} {name:Str} {v:ak3}
theorem get_map {expr:Bool} {Q:ak3->ak7->Prop} (X:K.In s.heap) (I:kH s.heap x dx C mA) (hg:aol K C name=true) (hh:aoJ K C=true)
 (ha:alE K (.ref C) name=some none) (hv:mA name=some v) (SM:arX v=true) (h:Q v { s with toks:=s.toks+1 }) :
 alu (model prog w) A (getAttr (.ref x) name expr) Q E s:=by
 obtain⟨od,J,hl⟩:=I.look
 exact PySem.W.get_value X J (apb hg).1 (PySem.W.findObj_own hh ha rfl (by rw[hl,hv])) SM h
theorem SN {pl:Sem Bool} {Q:ak3 × List ak3->ak7->Prop} (X:K.In s.heap) (I:kH s.heap x dx C mA) (hg:aol K C name=true)
 (hf:alE K (.ref C) name=some (some (.ref f))) (ht:ane K (.ref f)=true) (hv:mA name=none) (h:Q (.ref f,[.ref x]) s) :
 alu (model prog w) A (asj (.ref x) name pl) Q E s:=by
 obtain⟨od,J,hl⟩:=I.look
 exact PySem.W.method_fn X J (apb hg).1 (apb hg).2 hf (beq_iff_eq.mp ht) (by show (apF name od).map (·.isSome)=some false;rw[hl,hv];rfl) h
theorem SO {ns:List Str} {Q:Unit->ak7->Prop} (X:K.In s.heap) (I:kH s.heap x dx C mA)
 (hs:alE K (.ref C) "__setattr__" = some (some (.builtin "object.__setattr__"))) (hp:apP K C=true) (ht:aqz K C name=some none) (hh:aoJ K C=true)
 (hw:arR mA ns) (hsz:ns.length<=alI)
 (h:∀ h',kH h' x dx C (fun y=>if y=name then some v else mA y)->Heap.SameBut dx s.heap h'->Q () { s with heap:=h',toks:=s.toks+2 }) :
 alu (model prog w) A (setAttr (.ref x) name v) Q E s:=by
 obtain⟨od,J,hl⟩:=I.look
 refine PySem.W.set_plain X J hs (PySem.W.osa_open (s:={ s with toks:=s.toks+1 }) (r:=none) X J hp ht fun b=>?_)
 obtain⟨cd,hc,gM⟩:=PySem.W.any_some hh
 have hx:s.heap.get? x=some ⟨.ref C,some dx,.plain,#[]⟩:=I.obj
 refine ak1 (ak6 (ak1 (ak1 (wpAny_loadPart hx (ak1 (PySem.W.Looks.here (s:={ s with toks:=s.toks+1 }) (PySem.W.looks_clsIn X hc) ?_))))))
 rw[gM]
 refine ak6 (a:=some dx) (ak1 (ak6 (ak1 ?_)))
 refine wpAny_nsSet1 (s:={ s with toks:=s.toks+1 }) I.ns fun h' Ko cN=>?_
 obtain⟨oD,esD,epD,SQ,SR,SU⟩:=Ko.count (PySem.Within.cons name v hw)
 refine ak1 (wpAny_lookBehind SQ (by rw[SR];exact pastItsLine_dict (alp SU (by rw[amn];omega))) ?_)
 exact ak6 (h _ ⟨(cN.2 _ (al5 I.ne)).trans I.obj,Ko,I.ne⟩ cN)
theorem SV {R:apQ->ak7->Prop} {vs:List ak3} {kw:List (Str × ak3)} (X:K.In s.heap) (hm:aqA K C=true)
 (hi:alE K (.ref C) "__init__" = some (some (.ref f))) (hf:PySem.W.typeIn K (.ref f)=some (.type "function"))
 (h:anR (model prog w) (A.under (.builtin "type.__call__" ⟨.ref C::vs,kw⟩)) (.call (.ref f) ⟨.ref (s.heap.objs.size+1)::vs,kw⟩) (PySem.W.InitBack (s.heap.objs.size+1) R)
   { s with heap:=(s.heap.push amR).push (ani C s.heap.objs.size) }) :
 anR (model prog w) A (.call (.ref C) ⟨vs,kw⟩) R s:=by
 obtain⟨hh,g,d,t,os⟩:=s
 exact PySem.W.make_core (PySem.W.makes_of X hm) (PySem.W.looks_findIn X hi) (fun self=>PySem.W.bind_fn X self hf) (.inl rfl) h
end
noncomputable def dX (f:Str) (v:V):List (Str × V)->List (Str × V)
 | []=>[(f,v)]
 | (g,x)::r=>if g=f then (g,v)::r else (g,x)::dX f v r
theorem Kq (f g:Str) (v:V):∀ fs:List (Str × V),(dX f v fs).lookup g=if g=f then some v else fs.lookup g
 | []=>by
  show anY g [(f,v)]=_
  by_cases h:g=f
  ·have hb:(g == f)=true:=beq_iff_eq.mpr h
   simp only[anY,hb,if_pos h]
  ·have hb:(g == f)=false:=beq_eq_false_iff_ne.mpr h
   simp only[anY,hb,if_neg h]
 | (k,x)::r=>by
  have ih:=Kq f g v r
  rw[show dX f v ((k,x)::r)=(if k=f then (k,v)::r else (k,x)::dX f v r) from rfl]
  by_cases hk:k=f
  ·rw[if_pos hk]
   by_cases h:g=k
   ·have hb:(g == k)=true:=beq_iff_eq.mpr h
    simp only[anY,hb,if_pos (h.trans hk)]
   ·have hb:(g == k)=false:=beq_eq_false_iff_ne.mpr h
    simp only[anY,hb,if_neg (fun e:g=f=>h (e.trans hk.symm))]
  ·rw[if_neg hk]
   by_cases h:g=k
   ·have hb:(g == k)=true:=beq_iff_eq.mpr h
    simp only[anY,hb,if_neg (fun e:g=f=>hk (h.symm.trans e))]
   ·have hb:(g == k)=false:=beq_eq_false_iff_ne.mpr h
    simp only[anY,hb]
    exact ih
theorem yU (f:Str) (v:V):∀ fs:List (Str × V),f∈(dX f v fs).map (·.1)/\∀ g,g∈fs.map (·.1)->g∈(dX f v fs).map (·.1)
 | []=>⟨by simp[dX],fun g h=>by simp at h⟩
 | (k,x)::r=>by
  obtain⟨i1,i2⟩:=yU f v r
  rw[show dX f v ((k,x)::r)=(if k=f then (k,v)::r else (k,x)::dX f v r) from rfl]
  by_cases hk:k=f
  ·rw[if_pos hk]
   subst hk
   exact⟨by simp,fun g h=>by simpa using h⟩
  ·rw[if_neg hk]
   refine⟨?_,fun g h=>?_⟩
   ·rw[alH]
    exact alT _ i1
   ·rw[alH] at h ⊢
    rcases alk.mp h with e|e
    ·exact alk.mpr (.inl e)
    ·exact alT _ (i2 g e)
theorem Kr (f:Str) (v:V):∀ fs:List (Str × V),(dX f v fs).length<=fs.length+1
 | []=>by simp[dX]
 | (k,x)::r=>by
  have ih:=Kr f v r
  rw[show dX f v ((k,x)::r)=(if k=f then (k,v)::r else (k,x)::dX f v r) from rfl]
  by_cases hk:k=f
  ·rw[if_pos hk,amn,amn];omega
  ·rw[if_neg hk,amn,amn];omega
theorem eF.some_of {v:V} {o:Option ak3} (r:eF (some v) o):∃ u,o=some u/\RelV v u:=by
 cases o with
 | none=>exact (show False from r).elim
 | some u=>exact⟨u,rfl,r⟩
theorem eF.none_of {o:Option ak3} (r:eF none o):o=none:=by
 cases o with
 | none=>rfl
 | some u=>exact (show False from r).elim
theorem SW {v:V} {u:ak3} (r:RelV v u):arX u=true:=by
 cases v with
 | non=>cases (show u=Value.none from r);rfl
 | bl b=>cases (show u=aoF b from r);rfl
 | int i=>obtain⟨t,e⟩:=(show ∃ t,u=Value.int i t from r);cases e;rfl
 | str x=>obtain⟨t,e⟩:=(show ∃ t,u=Value.str x t from r);cases e;rfl
 | byt b=>obtain⟨t,e⟩:=(show ∃ t,u=atk b t from r);cases e;rfl
 | flt b=>obtain⟨t,e⟩:=(show ∃ t,u=asi b t from r);cases e;rfl
 | ref a=>cases (show u=alJ a from r);rfl
 | ty n=>cases (show u=aoG n from r);rfl
section
variable {P:alr} {w:alS} {H H':Hp} {h h':amH} {a C dx:ala} {fs R8:List (Str × V)}
theorem vD (ao:bQ P w H h) (e:H a=some (.ins C dx fs)):∃ mA,kH h a dx C mA/\(∀ f,eF (fs.lookup f) (mA f))/\arR mA (fs.map (·.1))/\fs.length<=1000/\H dx=some (.own a):=by
 obtain⟨d,z,ne,ob,mA,n,r,q⟩:=(show bD P w H h a (.ins C dx fs) from ao a _ e)
 exact⟨mA,⟨ob,n,ne⟩,r,q,z,d⟩
end
structure fQ (K:ak2) (C:ala):Prop where
 pg:aol K C Str.empty=true
 hd:aoJ K C=true
 po:apP K C=true
 sa:alE K (.ref C) "__setattr__" = some (some (.builtin "object.__setattr__"))
theorem fQ.get {K:ak2} {C:ala} (c:fQ K C) (f:Str):aol K C f=true:=c.pg
noncomputable def fj (K:ak2) (C:ala) (f:Str):Prop:=alE K (.ref C) f=some none
theorem fj.SX {K:ak2} {C:ala} {f:Str} (n:fj K C f):aqz K C f=some none:=by
 unfold aqz
 rw[show alE K (.ref C) f=some none from n]
 rfl
structure Meth (K:ak2) (C:ala) (m:Str) (f:ala):Prop where
 at_:alE K (.ref C) m=some (some (.ref f))
 fn:ane K (.ref f)=true
 kp:alc K (.ref f)=true
section
variable {X:Cx} {pins:List (ala × Obj)} {σ:St} {H:Hp} {s:ak7} {a C dx:ala} {fs:List (Str × V)} {f:Str} {v:V} {A:alY} {E:ak3->ak7->Prop}
theorem SY {b:Bool} {Q:ak3->ak7->Prop} (I:Inv X pins σ H s) (e:H a=some (.ins C dx fs)) (c:fQ X.K C) (n:fj X.K C f) (l:fs.lookup f=some v)
 (h:∀ u s',Inv X pins σ H s'->RelV v u->Q u s'):alu (model X.prog X.w) A (getAttr (.ref a) f b) Q E s:=by
 obtain⟨mA,O,r,_,_,_⟩:=vD I.ao e
 obtain⟨u,hu,ru⟩:=eF.some_of (v:=v) (o:=mA f) (by rw[<- l];exact r f)
 exact get_map I.cA O (c.get f) c.hd n hu (SW ru) (h u _ (I.tok _) ru)
theorem Ks {m:Str} {g:ala} {pl:Sem Bool} {Q:ak3 × List ak3->ak7->Prop} (I:Inv X pins σ H s) (e:H a=some (.ins C dx fs)) (c:fQ X.K C) (k:Meth X.K C m g) (l:fs.lookup m=none)
 (h:Q (.ref g,[.ref a]) s):alu (model X.prog X.w) A (asj (.ref a) m pl) Q E s:=by
 obtain⟨mA,O,r,_,_,_⟩:=vD I.ao e
 have hn:mA m=none:=eF.none_of (by rw[<- l];exact r m)
 exact SN I.cA O (c.get m) k.at_ k.fn hn h
theorem S0 {y:V} {u:ak3} {Q:Unit->ak7->Prop} (I:Inv X pins σ H s) (e:H a=some (.ins C dx fs)) (c:fQ X.K C) (n:fj X.K C f) (hl:fs.length<1000) (ry:RelV y u)
 (h:∀ s',Inv X pins σ (upd H a (.ins C dx (dX f y fs))) s'->Q () s'):alu (model X.prog X.w) A (setAttr (.ref a) f u) Q E s:=by
 obtain⟨mA,O,r,wi,_,ho⟩:=vD I.ao e
 have hz:(fs.map (·.1)).length<=alI:=by rw[ak8,anj];omega
 refine SO I.cA O c.sa c.po n.SX c.hd wi hz fun h' O' sb=>h _ ?_
 have hd:∃ o,h'.get? dx=some o:=let ⟨o,_,_,e',_⟩:=O'.ns;⟨o,e'⟩
 refine I.write (x:=a) (e:=dx) (by rw[e];exact anE) (.inr ho) (fun b q hb z=>(sb.2 b hb).trans z) hd ?_
 refine⟨by rw[aH O.ne];exact ho,?_,O.ne,O'.obj,_,O'.ns,fun g=>?_,fun g hg=>?_⟩
 ·have:=Kr f y fs;omega
 ·show eF ((dX f y fs).lookup g) (if g=f then some u else mA g)
  rw[Kq]
  by_cases q:g=f
  ·rw[if_pos q,if_pos q];exact ry
  ·rw[if_neg q,if_neg q];exact r g
 ·by_cases q:g=f
  ·rw[q];exact (yU f y fs).1
  ·refine (yU f y fs).2 g (wi g fun z=>hg ?_)
   show (if g=f then some u else mA g)=none
   rw[if_neg q];exact z
theorem Inv.made (I:Inv X pins σ H s):Inv X pins σ (upd (upd H s.heap.objs.size (.own (s.heap.objs.size+1))) (s.heap.objs.size+1) (.ins C s.heap.objs.size []))
 { s with heap:=(s.heap.push amR).push (ani C s.heap.objs.size) }:=by
 have e1:(s.heap.push amR).get? s.heap.objs.size=some amR:=aln s.heap rfl
 have e2:((s.heap.push amR).push (ani C s.heap.objs.size)).get? (s.heap.objs.size+1)=some (ani C s.heap.objs.size):=by
  have:=aln (s.heap.push amR) (o:=ani C s.heap.objs.size) rfl
  rwa [anz] at this
 have e3:(s.heap.push amR).Ns s.heap.objs.size (fun _=>none):=⟨amR,#[],_,e1,rfl,(fun e he=>absurd he (by simp)),fun _=>rfl⟩
 have I1:=I.laid (a:=s.heap.objs.size) (o:=.own (s.heap.objs.size+1)) (h':=s.heap.push amR) (t':=s.toks) (fun b u q=>ak5 _ q) (alm _) ⟨_,e1⟩
 refine I1.laid (a:=s.heap.objs.size+1) (o:=.ins C s.heap.objs.size []) (t':=s.toks) (fun b u q=>ak5 _ q) (ata (anz _ _)) ?_
 have ne:s.heap.objs.size≠s.heap.objs.size+1:=alA (aom _)
 refine⟨by rw[aH ne,au],alv _,ne,e2,fun _=>none,(Heap.Ns1.of_empty e3).at fun o q=>ak5 _ q,fun _=>anE,fun y hy=>absurd rfl hy⟩
theorem S9 {prog:alr} {w:alS} {env:Env} {e:am7} {f:Str} {pos:Pos} {s:ak7} {Q:ak3->ak7->Prop} (hb:an5 e f env (eval e env)=eval e env)
 (h:alu (model prog w) A (eval e env) (fun o s₁=>alu (model prog w) A (getAttr o f true) Q E s₁) E s):alu (model prog w) A (eval (.Attribute e f pos) env) Q E s :=
 Attribute_any_ h (by rw[arm_eval_Attribute,hb])
end
noncomputable def Kt (K:ak2) (ta:TE) (f:Str):TE:=fun σ H Q=>ta σ H fun x H1=>∃ a C dx fs v,x = .ref a/\H1 a=some (.ins C dx fs)/\fQ K C/\fj K C f/\fs.lookup f=some v/\Q v H1
noncomputable def Ku (K:ak2) (ta tv:TE) (f:Str):TS:=fun D σ H=>tv σ H fun y H1=>ta σ H1 fun x H2=>∃ a C dx fs,x = .ref a/\H2 a=some (.ins C dx fs)/\fQ K C/\fj K C f/\fs.length<1000 /\
 D.nx σ (upd H2 a (.ins C dx (dX f y fs)))
section
variable {X:Cx} {o e value:am7} {f:Str} {pos pos' Tc:Pos} {ta tv:TE}
theorem Td (he:PE X e ta) (hb:an5 e f X.env (eval e X.env)=eval e X.env):PE X (.Attribute e f pos) (Kt X.K ta f):=by
 intro pins s σ H Q I h
 refine S9 hb (aC (he pins s σ H _ I h) fun u s1 ⟨x,H1,I1,rx,a,C,dx,fs,v,ex,ea,c,n,l,q⟩=>?_)
 subst ex
 obtain rfl:u=alJ a:=rx
 exact SY I1 ea c n l fun u' s2 I2 ru=>⟨v,H1,I2,ru,q⟩
theorem Te (ha:PE X o ta) (hv:PE X value tv) (hs:aqy value (some (.Attribute o f pos')) pos.line X.env=pure false):PS X (.Assign [.Attribute o f pos'] value pos) (Ku X.K ta tv f):=by
 intro pins s σ H D I h
 refine plainObj_wpAny_Assign_Attribute (aC (hv pins s σ H _ I h) fun u s1 ⟨y,H1,I1,ry,q⟩=>aC (ha pins s1 σ H1 _ I1 q) fun ov s2 ⟨x,H2,I2,rx,a,C,dx,fs,ex,ea,c,n,l,q2⟩=>?_) hs
 subst ex
 obtain rfl:ov=alJ a:=rx
 exact S0 I2 ea c n l ry fun s3 I3=>⟨σ,_,I3,q2⟩
end
section
variable {X:Cx} {pins:List (ala × Obj)} {σ:St} {H:Hp} {s:ak7} {A:alY} {E:ak3->ak7->Prop} {Q:ak3->ak7->Prop} {c:ak3} {b:Bool}
inductive cP (K:ak2) (H:Hp):V->ak3->Prop where
 | non:cP K H .non (.type "NoneType")
 | bl (x:Bool):cP K H (.bl x) (.type "bool")
 | int (i:Int):cP K H (.int i) (.type "int")
 | str (x:Str):cP K H (.str x) (.type "str")
 | flt (x:UInt64):cP K H (.flt x) (.type "float")
 | lst {a:ala} {xs:List V} (e:H a=some (.lst xs)):cP K H (.ref a) (.type "list")
 | aX {a:ala} {o:Obj} {xs:List V} (e:H a=some (.aX o (.lst xs))):cP K H (.ref a) (.type "list")
 | tup {a:ala} {xs:List V} (e:H a=some (.tup xs)):cP K H (.ref a) (.type "tuple")
 | dK {a:ala} {kvs:List (Key × V)} (e:H a=some (.dK kvs)):cP K H (.ref a) (.type "dict")
 | dT {a:ala} {kvs:List (List Key × V)} (e:H a=some (.dT kvs)):cP K H (.ref a) (.type "dict")
 | ins {a C dx:ala} {fs:List (Str × V)} (e:H a=some (.ins C dx fs)) (cl:fQ K C) (ha:alE K (.ref C) "__class__" = some (some (.builtin "object.__class__")))
  (hn:PySem.W.specialIn K (.builtin "object.__class__") "__get__" = some (some (.builtin "getset_descriptor.__get__"))) (Kv:PySem.W.takesIn K (.builtin "object.__class__")=some true)
  (hm:an6 K C (.type "object")=some true):cP K H (.ref a) (.ref C)
theorem Tf {x:V} {u t:ak3} (I:Inv X pins σ H s) (rx:RelV x u) (ty:cP X.K H x t) (e:amV X.K t c=some b) (h:∀ tk,Q (.bool b) { s with toks:=tk }) :
 alu (model X.prog X.w) A (call (.builtin "isinstance") [u,c]) Q E s:=by
 cases ty with
 | non=>cases (show u=Value.none from rx);exact amI PySem.W.kitx_none I.cA anE e (fun z=>nomatch z) h
 | bl y=>cases (show u=aoF y from rx);exact amI PySem.W.kitx_bool I.cA anE e (fun z=>nomatch z) h
 | int i=>obtain⟨t,q⟩:=(show ∃ t,u=Value.int i t from rx);cases q;exact amI PySem.W.kitx_int I.cA anE e (fun z=>nomatch z) h
 | str y=>obtain⟨t,q⟩:=(show ∃ t,u=Value.str y t from rx);cases q;exact amI PySem.W.kitx_str I.cA anE e (fun z=>nomatch z) h
 | flt y=>obtain⟨t,q⟩:=(show ∃ t,u=asi y t from rx);cases q;exact amI PySem.W.kitx_float I.cA anE e (fun z=>nomatch z) h
 | @lst a xs ea =>
  cases (show u=alJ a from rx)
  obtain⟨_,_,n,_,h1⟩:=(show bD X.prog X.w H s.heap a (.lst xs) from I.ao a _ ea)
  exact amI arC I.cA ⟨_,h1,rfl⟩ e (fun z=>nomatch z) h
 | @aX a ob xs ea =>
  cases (show u=alJ a from rx)
  obtain⟨_,_,_,n,_,h1⟩:=(show bD X.prog X.w H s.heap a (.aX ob (.lst xs)) from I.ao a _ ea)
  exact amI arC I.cA ⟨_,h1,rfl⟩ e (fun z=>nomatch z) h
 | @tup a xs ea =>
  cases (show u=alJ a from rx)
  obtain⟨_,_,_,p⟩:=(show bD X.prog X.w H s.heap a (.tup xs) from I.ao a _ ea)
  obtain⟨o,h1,h2,_⟩:=p
  exact amI PySem.W.kitx_tuple I.cA ⟨o,h1,h2⟩ e (fun z=>nomatch z) h
 | @dK a kvs ea =>
  cases (show u=alJ a from rx)
  obtain⟨_,_,vs,_,p⟩:=(show bD X.prog X.w H s.heap a (.dK kvs) from I.ao a _ ea)
  obtain⟨o,es,ep,h1,h2,_⟩:=p
  exact amI arD I.cA ⟨o,h1,h2.1⟩ e (fun z=>nomatch z) h
 | @dT a kvs ea =>
  cases (show u=alJ a from rx)
  obtain⟨_,_,xs,_,o,es,ep,h1,h2,_⟩:=(show bD X.prog X.w H s.heap a (.dT kvs) from I.ao a _ ea)
  exact amI arD I.cA ⟨o,h1,h2.1⟩ e (fun z=>nomatch z) h
 | @ins a C dx fs ea cl ha hn Kv hm =>
  cases (show u=alJ a from rx)
  obtain⟨mA,O,_⟩:=vD I.ao ea
  obtain⟨od,J,_⟩:=O.look
  exact amI (PySem.W.kitx_own (cl.get _) cl.hd ha hn Kv hm) I.cA J e (fun z=>nomatch z) h
end
end L2
namespace L2
open PySem PySem.Spec PyProof.Rows
structure ck (k:Nat) (A:alY):Prop where
 hd:A.handled=none
 dp:A.depth+3 * k+5<recursionLimit
 un:A.units+16 * k+200<apr
theorem ck.mono {j k:Nat} {A:alY} (r:ck k A) (h:j<=k):ck j A:=⟨r.hd,by have:=r.dp;omega,by have:=r.un;omega⟩
theorem ck.deeper {k:Nat} {A:alY} (r:ck (k+1) A) (env:Env):ck k (A.deeper env) :=
 ⟨r.hd,by have:=r.dp;show A.depth+1+3 * k+5<_;omega,by have:=r.un;show A.units+3+16 * k+200<_;omega⟩
theorem Tg {A:alY} {C:ala} {us:List ak3} {kw:List (Str × ak3)}:(A.under (.builtin "type.__call__" ⟨.ref C::us,kw⟩)).depth=A.depth+1:=by
 first|rfl|simp[arT,Code.weight,Code.isCreation,Code.isGuard,Code.isCaller,Code.frames,Code.isFrame,guardIds]
theorem Th {A:alY} {C:ala} {us:List ak3} {kw:List (Str × ak3)}:(A.under (.builtin "type.__call__" ⟨.ref C::us,kw⟩)).units=A.units+1:=by
 first|rfl|simp[arT,Code.cUnits,Code.frames,Code.isFrame]
theorem ck.make {k:Nat} {A:alY} (r:ck (k+1) A) (C:ala) (us:List ak3) (kw:List (Str × ak3)):ck k (A.under (.builtin "type.__call__" ⟨.ref C::us,kw⟩)) :=
 ⟨r.hd,by have:=r.dp;rw[Tg];omega,by have:=r.un;rw[Th];omega⟩
theorem ck.depth {k:Nat} {A:alY} (r:ck k A):A.depth<recursionLimit:=by have:=r.dp;omega
theorem ck.units {k:Nat} {A:alY} (r:ck k A):A.units+64<apr:=by have:=r.un;omega
noncomputable def vE:TA:=fun _ H Q=>Q [] H
noncomputable def yV (ta:TE) (tr:TA):TA:=fun σ H Q=>ta σ H fun x H1=>tr σ H1 fun xs H2=>Q (x::xs) H2
section
variable {X:Cx} {e:am7} {es:List am7} {te:TE} {t:TA} {pos:Pos}
theorem ag:PA X [] vE:=fun _ _ _ _ H Q I h=>an7 ⟨[],H,I,.nil,h⟩
theorem ae (ha:PE X e te) (hr:PA X es t) (hs:alM (e::es) X.env=(false,eval e X.env)::alM es X.env:=by rfl):PA X (e::es) (yV te t):=by
 intro pos pins s σ H Q I h
 rw[hs]
 show alu _ _ (spliced ((false,eval e X.env)::anQ pos (alM es X.env))) _ _ s
 refine anU (aC (ha pins s σ H _ I h) fun u s1 ⟨x,H1,I1,r1,q1⟩=>?_)
 exact aC (hr pos pins s1 σ H1 _ I1 q1) fun us s2 ⟨xs,H2,I2,r2,q2⟩=>⟨x::xs,H2,I2,.cons r1 r2,q2⟩
noncomputable def Kw (t:TA):TE:=fun σ H Q=>t σ H fun xs H1=>xs.length<=alI/\∀ p,H1 p=none->Q (.ref p) (upd H1 p (.tup xs))
noncomputable def Kx (t:TA):TE:=fun σ H Q=>t σ H fun xs H1=>xs.length<=alI/\∀ p,H1 p=none->Q (.ref p) (upd H1 p (.lst xs))
theorem bg {x1} (h:PA X es t):PE X (.Tuple es x1 pos) (Kw t):=by
 intro pins s σ H Q I hq
 refine wpAny_Tuple_spliced (aC (h pos pins s σ H _ I hq) fun us s1 ⟨xs,H1,I1,r,z,q⟩=>⟨by rw[<- r.length];exact z,?_⟩)
 have hf:H1 s1.heap.objs.size=none:=I1.ao.fresh (alm _)
 refine⟨.ref s1.heap.objs.size,upd H1 s1.heap.objs.size (.tup xs),I1.laid (t':=s1.toks) (fun b u e=>ak5 _ e) (alm _) ?_,rfl,q _ hf⟩
 exact⟨z,us,r,⟨_,aln _ rfl,rfl,_,rfl⟩⟩
theorem cF (h:PA X es t):PE X (.List es pos) (Kx t):=by
 intro pins s σ H Q I hq
 refine wpAny_List_spliced (aC (h pos pins s σ H _ I hq) fun us s1 ⟨xs,H1,I1,r,z,q⟩=>⟨by rw[<- r.length];exact z,?_⟩)
 have hf:H1 s1.heap.objs.size=none:=I1.ao.fresh (alm _)
 refine⟨.ref s1.heap.objs.size,upd H1 s1.heap.objs.size (.lst xs),I1.laid (t':=s1.toks) (fun b u e=>ak5 _ e) (alm _) ?_,rfl,q _ hf⟩
 exact⟨z,us,0,r,aln _ rfl⟩
end
noncomputable abbrev Sp:=List V->Hp->VK->XK->Prop
noncomputable abbrev dY:=List Env->Hp->ak7->XK->ak3->ak7->Prop
structure kI (P:alr) (w:alS) (K:ak2) (mg:Str->Option ak3) (base:amH) (A:alY) (outer:List Env) (s:ak7) (H:Hp):Prop where
 frames:A.frames=some outer
 mod:Mod K mg base
 bs:∀ b o,base.get? b=some o->s.heap.get? b=some o/\H b=none
 bsz:base.objs.size<=s.heap.objs.size
 gi:s.heap.FunFrames base outer
 frf:∀ b∈bf outer,H b=none
 ao:bQ P w H s.heap
 bare:aqv s.gens
noncomputable def CE (outer:List Env) (P:alr) (w:alS) (H:Hp) (s:ak7) (Q:VK) (u:ak3) (s':ak7):Prop :=
 ∃ v H',s'.os=s.os/\aqv s'.gens/\Un (bf outer) [] H H' s.heap s'.heap/\bQ P w H' s'.heap/\RelV v u/\Q v H'
noncomputable def CR (CX:dY) (outer:List Env) (P:alr) (w:alS) (H:Hp) (s:ak7) (Q:VK) (E:XK) (r:apQ) (s':ak7):Prop :=
 match r with
 | .ok (.ret u)=>CE outer P w H s Q u s'
 | .ok _=>False
 | .error e=>CX outer H s E e s'
structure aL (P:alr) (w:alS) (K:ak2) (mg:Str->Option ak3) (base:amH) (CX:dY) (k:Nat) (f:ala) (fd:alB) (ps:List Str) (sp:Sp):Prop where
 len:∀ vs H Q E,sp vs H Q E->vs.length=ps.length
 run:∀ (A:alY) (outer:List Env) (s:ak7) (H:Hp) (args:Args) (us:List ak3) (vs:List V) (Q:VK) (E:XK),ck k A->kI P w K mg base A outer s H->asl s fd args (ps.zip us)->Vals vs us->sp vs H Q E ->
  anR (model P w) A (.call (.ref f) args) (CR CX outer P w H s Q E) s
theorem kI.make {P:alr} {w:alS} {K:ak2} {mg:Str->Option ak3} {base:amH} {A:alY} {outer:List Env} {s:ak7} {H:Hp} (e:kI P w K mg base A outer s H) (C:ala) (us:List ak3) (kw:List (Str × ak3)) :
 kI P w K mg base (A.under (.builtin "type.__call__" ⟨.ref C::us,kw⟩)) outer s H:=⟨by first|exact e.frames|(simpa [arT,Code.envs,Code.isFrame,pushEnvs] using e.frames),e.mod,e.bs,e.bsz,e.gi,e.frf,e.ao,e.bare⟩
section
variable {X:Cx} {pins:List (ala × Obj)} {σ:St} {H:Hp} {s s':ak7}
theorem Inv.Ky (I:Inv X pins σ H s):kI X.prog X.w X.K X.mg X.base X.A X.stack s H :=
 ⟨I.ok.frames,I.ok.mod,I.bs,alp I.ok.bsz I.sz,I.stack,I.rK,I.ao,I.bare⟩
theorem Inv.after {Q:VK} {u:ak3} (I:Inv X pins σ H s) (h:CE X.stack X.prog X.w H s Q u s'):EP X pins σ Q u s':=by
 obtain⟨v,H',os,bare,un,ao,r,q⟩:=h
 obtain⟨hh,g,d,t,og⟩:=s'
 obtain rfl:og=s.os:=os
 exact⟨v,H',I.call (h':=hh) (g':=g) (d':=d) (t':=t) (ch:=[]) un ao bare (fun b z=>absurd z (by simp)),r,q⟩
end
noncomputable def yW (sp:Sp) (cG:List V) (E:XK) (t:TA):TE:=fun σ H Q=>t σ H fun vs H1=>sp (vs++cG) H1 Q E
noncomputable def yX (C:ala) (m:Str) (sp:Sp) (cG:List V) (E:XK) (ta:TE) (t:TA):TE:=fun σ H Q=>ta σ H fun x H1=>∃ a dx fs,x = .ref a/\H1 a=some (.ins C dx fs)/\fs.lookup m=none /\
 t σ H1 fun vs H2=>sp (x::(vs++cG)) H2 Q E
noncomputable def Kz (C:ala) (sp:Sp) (cG:List V) (E:XK) (t:TA):TE:=fun σ H Q=>t σ H fun vs H1=>∀ x dx,H1 x=none->H1 dx=none->dx≠x ->
 sp (.ref x::(vs++cG)) (upd (upd H1 dx (.own x)) x (.ins C dx [])) (fun v H2=>v = .non/\Q (.ref x) H2) E
noncomputable def Binds (K:ak2) (fd:alB) (ps:List Str) (ds:List ak3):Prop :=
 ∀ (s:ak7) (us:List ak3),K.In s.heap->(us++ds).length=ps.length->asl s fd ⟨us,[]⟩ (ps.zip (us++ds))
theorem Binds.all {K:ak2} {fd:alB} {ps:List Str} (h:∀ us:List ak3,us.length=ps.length->bindArgs fd ⟨us,[]⟩=pure (ps.zip us)):Binds K fd ps []:=fun s us _ hl=>by
 rw[asm] at hl ⊢
 exact .of_eq (h us hl)
noncomputable def Passes (CX:dY) (X:Cx) (E:XK):Prop:=∀ (pins:List (ala × Obj)) (σ:St) (H:Hp) (s:ak7) (e:ak3) (s':ak7),Inv X pins σ H s->CX X.stack H s E e s'->X.xe e s'
section
variable {X:Cx} {CX:dY} {k:Nat} {f C:ala} {fd:alB} {ps:List Str} {sp:Sp} {cG:List V} {ds:List ak3} {E:XK} {x m:Str} {p pos apos:Pos} {e o:am7} {es:List am7} {ta:TE} {t:TA}
theorem yY {pins:List (ala × Obj)} {σ:St} {H:Hp} {s:ak7} {Q:VK} {us:List ak3} {vs:List V} (F:aL X.prog X.w X.K X.mg X.base CX k f fd ps sp) (hr:ck k X.A) (hb:Binds X.K fd ps ds) (hd:Vals cG ds) (hx:Passes CX X E)
 (I:Inv X pins σ H s) (r:Vals vs us) (h:sp (vs++cG) H Q E):alu (model X.prog X.w) X.A (call (.ref f) us) (EP X pins σ Q) X.xe s:=by
 have r2:Vals (vs++cG) (us++ds):=r.append hd
 have hl:(us++ds).length=ps.length:=by rw[<- r2.length];exact F.len _ _ _ _ h
 refine arE (aoX (F.run X.A X.stack s H ⟨us,[]⟩ (us++ds) (vs++cG) Q E hr I.Ky (hb s us I.cA hl) r2 h) fun r s' hq=>?_)
 cases r with
 | error e=>exact hx pins σ H s e s' I hq
 | ok fl =>
  cases fl with
  | ret u=>exact I.after hq
  | next=>exact ans hq
  | brk=>exact ans hq
  | cont=>exact ans hq
theorem dB (F:aL X.prog X.w X.K X.mg X.base CX k f fd ps sp) (hr:ck k X.A) (hg:Gl X x) (hm:X.mg x=some (.ref f)) (hk:alc X.K (.ref f)=true) (hb:Binds X.K fd ps ds) (hd:Vals cG ds) (hx:Passes CX X E)
 (ha:PA X (e::es) t) (gR:(x == ("__debug__" : Str))=false:=by decide) (he:alM (e::es) X.env=(false,eval e X.env)::alM es X.env:=by rfl) (fm:(anQ pos (alM es X.env)).any (·.1)=false:=by rfl) :
 PE X (.Call (.Name x p) (e::es) [] pos) (yW sp cG E t):=by
 intro pins s σ H Q I h
 refine amW (vm I hg hm ?_ gR)
 refine apv (h₀:=X.base) I.ok.mod.kin hk (aC (ha pos pins s σ H _ I h) fun us s1 ⟨vs,H1,I1,r,q⟩=>⟨I1.cA,?_⟩) he fm
 exact yY F hr hb hd hx I1 r q
theorem iy {pl:Sem Bool} (he:PE X o ta) (c:fQ X.K C) (hm:Meth X.K C m f) (F:aL X.prog X.w X.K X.mg X.base CX k f fd ps sp) (hr:ck k X.A) (hb:Binds X.K fd ps ds) (hd:Vals cG ds) (hx:Passes CX X E) (ha:PA X (e::es) t)
 (cM:alM (e::es) X.env=(false,eval e X.env)::alM es X.env:=by rfl) (fm:(anQ pos (alM es X.env)).any (·.1)=false:=by rfl)
 (ht:eval (.Call (.Attribute o m apos) (e::es) [] pos) X.env=(do
   let ov <- eval o X.env
   asW apos.atName
   let (f,first) <- holding [ov] (asj ov m pl)
   callWith pos f first (anQ pos (alM (e::es) X.env)) (asf pos (ap3 [] X.env))):=by rfl) :
 PE X (.Call (.Attribute o m apos) (e::es) [] pos) (yX C m sp cG E ta t):=by
 intro pins s σ H Q I h
 refine aqB (pl:=pl) (aC (he pins s σ H _ I h) fun u s1 ⟨x,H1,I1,rx,a,dx,fs,ex,ea,l,q⟩=>?_) ht
 subst ex
 obtain rfl:u=alJ a:=rx
 refine Ks I1 ea c hm l ?_
 refine apv (first:=[.ref a]) (h₀:=X.base) I.ok.mod.kin hm.kp (aC (ha pos pins s1 σ H1 _ I1 q) fun us s2 ⟨vs,H2,I2,r,q2⟩=>⟨I2.cA,?_⟩) cM fm
 exact yY (us:=.ref a::us) (vs:=.ref a::vs) F hr hb hd hx I2 (.cons rfl r) q2
theorem yZ {pl:Sem Bool} (he:PE X o ta) (c:fQ X.K C) (hm:Meth X.K C m f) (F:aL X.prog X.w X.K X.mg X.base CX k f fd ps sp) (hr:ck k X.A) (hb:Binds X.K fd ps ds) (hd:Vals cG ds) (hx:Passes CX X E)
 (ht:eval (.Call (.Attribute o m apos) [] [] pos) X.env=(do
   let ov <- eval o X.env
   asW apos.atName
   let (f,first) <- holding [ov] (asj ov m pl)
   callWith pos f first (anQ pos (alM [] X.env)) (asf pos (ap3 [] X.env))):=by rfl) :
 PE X (.Call (.Attribute o m apos) [] [] pos) (yX C m sp cG E ta vE):=by
 intro pins s σ H Q I h
 refine aqB (pl:=pl) (aC (he pins s σ H _ I h) fun u s1 ⟨x,H1,I1,rx,a,dx,fs,ex,ea,l,q⟩=>?_) ht
 subst ex
 obtain rfl:u=alJ a:=rx
 refine Ks I1 ea c hm l ?_
 exact PySem.W.callWith_K0 (first:=[.ref a]) I1.cA hm.kp (yY (us:=[.ref a]) (vs:=[.ref a]) F hr hb hd hx I1 (.cons rfl .nil) q)
structure Mk (K:ak2) (C f:ala):Prop where
 makes:aqA K C=true
 init:alE K (.ref C) "__init__" = some (some (.ref f))
 fn:ane K (.ref f)=true
 kp:alc K (.ref C)=true
theorem Ti {pins:List (ala × Obj)} {σ:St} {H:Hp} {s:ak7} {Q:VK} {us:List ak3} {vs:List V} (M:Mk X.K C f) (F:aL X.prog X.w X.K X.mg X.base CX k f fd ps sp) (hr:ck (k+1) X.A) (hb:Binds X.K fd ps ds) (hd:Vals cG ds)
 (hx:Passes CX X E) (I:Inv X pins σ H s) (r:Vals vs us)
 (h:∀ x dx,H x=none->H dx=none->dx≠x->sp (.ref x::(vs++cG)) (upd (upd H dx (.own x)) x (.ins C dx [])) (fun v H2=>v = .non/\Q (.ref x) H2) E) :
 alu (model X.prog X.w) X.A (call (.ref C) us) (EP X pins σ Q) X.xe s:=by
 have hq:=h (s.heap.objs.size+1) s.heap.objs.size (I.ao.fresh (aoK _)) (I.ao.fresh (alm _)) (alA (aom _))
 have I2:=Inv.made (C:=C) I
 have r2:Vals (V.ref (s.heap.objs.size+1)::(vs++cG)) (alJ (s.heap.objs.size+1)::(us++ds)):=.cons rfl (r.append hd)
 have hl:(alJ (s.heap.objs.size+1)::us++ds).length=ps.length:=by
  have e:=r2.length
  rw[F.len _ _ _ _ hq] at e
  exact e.symm
 refine arE (SV (f:=f) I.cA M.makes M.init (beq_iff_eq.mp M.fn) (aoX (F.run _ X.stack _ _ ⟨alJ (s.heap.objs.size+1)::us,[]⟩ (alJ (s.heap.objs.size+1)::(us++ds)) _ _ E (hr.make C us [])
  (I2.Ky.make C us []) (hb _ (alJ (s.heap.objs.size+1)::us) I2.cA hl) r2 hq) fun r s' i5=>?_))
 cases r with
 | error e=>exact hx pins σ _ _ e s' I2 i5
 | ok fl =>
  cases fl with
  | ret u =>
   obtain⟨v,H',I3,rv,ev,q3⟩:=I2.after i5
   subst ev
   exact⟨rv,⟨V.ref (s.heap.objs.size+1),H',I3,rfl,q3⟩⟩
  | next=>exact ans i5
  | brk=>exact ans i5
  | cont=>exact ans i5
theorem Tj (M:Mk X.K C f) (F:aL X.prog X.w X.K X.mg X.base CX k f fd ps sp) (hr:ck (k+1) X.A) (hg:Gl X x) (hm:X.mg x=some (.ref C)) (hb:Binds X.K fd ps ds) (hd:Vals cG ds) (hx:Passes CX X E)
 (ha:PA X (e::es) t) (gR:(x == ("__debug__" : Str))=false:=by decide) (he:alM (e::es) X.env=(false,eval e X.env)::alM es X.env:=by rfl) (fm:(anQ pos (alM es X.env)).any (·.1)=false:=by rfl) :
 PE X (.Call (.Name x p) (e::es) [] pos) (Kz C sp cG E t):=by
 intro pins s σ H Q I h
 refine amW (vm I hg hm ?_ gR)
 refine apv (h₀:=X.base) I.ok.mod.kin M.kp (aC (ha pos pins s σ H _ I h) fun us s1 ⟨vs,H1,I1,r,q⟩=>⟨I1.cA,?_⟩) he fm
 exact Ti M F hr hb hd hx I1 r q
end
section
variable {X:Cx} {CX:dY} {k:Nat} {f C:ala} {fd:alB} {ps ks:List Str} {sp:Sp} {E:XK} {x m:Str} {p pos apos akQ:Pos} {e o:am7} {es:List am7} {kws:List arF} {te ta:TE} {t tk:TA} {nm:Option Str}
variable {g:List ak3->List ak3->List ak3} {gV:List V->List V->List V}
end
structure aU (N P:List Str) (sc:apo):Prop where
 kind:sc.kind = .function
 co:sc.isCoroutine=false
 gen:sc.isGenerator=false
 nd:N.Nodup
 pre:N.take P.length=P
 par:∀ x∈P,sc.names.lookup x=some .local∨sc.names.lookup x=some .cell
 nofree:∀ y∈sc.names,y.2 ≠ .free
theorem KA {apR:Str->Option aqS} {x:Str}:∀ {binds:List (Str × ak3)} {m:Str->Option ak3},(∀ v,(x,v)∉binds)->atm apR binds m x=m x
 | [],_,_=>rfl
 | (n,v)::r,m,h=>by
  unfold atm
  rw[KA fun w hw=>h w (alT _ hw)]
  split
  ·have:x≠n:=by rintro rfl;exact h v am8
   simp[this]
  ·rfl
theorem KC {apR:Str->Option aqS} {x:Str}:∀ {binds:List (Str × ak3)} {m:Str->Option ak3},(∀ v,(x,v)∉binds)->atn apR binds m x=m x
 | [],_,_=>rfl
 | (n,v)::r,m,h=>by
  unfold atn
  rw[KC fun w hw=>h w (alT _ hw)]
  split
  ·rfl
  ·have:x≠n:=by rintro rfl;exact h v am8
   simp[this]
theorem KD {apR:Str->Option aqS} {x:Str} {v:ak3}:∀ {P:List Str} {vs:List ak3} {i:Nat} {m:Str->Option ak3},P.Nodup->P[i]?=some x->vs[i]?=some v->apR x=some .local ->
 atm apR (P.zip vs) m x=some v
 | [],_,_,_,_,h,_,_=>by simp at h
 | _::_,[],_,_,_,_,h,_=>by simp at h
 | p::P,w::vs,0,m,nd,h1,h2,hk=>by
  simp at h1 h2;subst h1;subst h2
  show atm apR ((p,w)::P.zip vs) m p=_
  unfold atm
  rw[KA fun v hv=>(amo.mp nd).1 (aqC hv).1,if_pos hk]
  simp
 | p::P,w::vs,i+1,m,nd,h1,h2,hk=>by
  show atm apR ((p,w)::P.zip vs) m x=_
  unfold atm
  exact KD (i:=i) (amo.mp nd).2 (by simpa using h1) (by simpa using h2) hk
theorem KG {apR:Str->Option aqS} {x:Str} {v:ak3}:∀ {P:List Str} {vs:List ak3} {i:Nat} {m:Str->Option ak3},P.Nodup->P[i]?=some x->vs[i]?=some v->apR x≠some .local ->
 atn apR (P.zip vs) m x=some v
 | [],_,_,_,_,h,_,_=>by simp at h
 | _::_,[],_,_,_,_,h,_=>by simp at h
 | p::P,w::vs,0,m,nd,h1,h2,hk=>by
  simp at h1 h2;subst h1;subst h2
  show atn apR ((p,w)::P.zip vs) m p=_
  unfold atn
  rw[KC fun v hv=>(amo.mp nd).1 (aqC hv).1,if_neg hk]
  simp
 | p::P,w::vs,i+1,m,nd,h1,h2,hk=>by
  show atn apR ((p,w)::P.zip vs) m x=_
  unfold atn
  exact KG (i:=i) (amo.mp nd).2 (by simpa using h1) (by simpa using h2) hk
noncomputable def start (N:List Str) (vs:List V):St:=vs.map some++aod (N.length-vs.length) none
noncomputable def fR (CX:dY) (P:alr) (w:alS) (K:ak2) (mg:Str->Option ak3) (base:amH) (N:List Str) (qual:Str) (scope:apo) (f:ala) (cd:ak3) (A:alY) (outer:List Env) (s:ak7) (H:Hp) (E:XK):Cx where
 prog:=P
 w:=w
 K:=K
 mg:=mg
 base:=base
 A:=A.deeper (anr qual scope s.heap.objs.size f cd)
 N:=N
 s₀:=s
 H₀:=H
 env:=anr qual scope s.heap.objs.size f cd
 outer:=outer
 stack:=anr qual scope s.heap.objs.size f cd::outer
 ex:=[]
 calm:=true
 fn:=fun _=>true
 pn:=[]
 xe:=fun e s'=>alu (model P w) (A.deeper (anr qual scope s.heap.objs.size f cd)) (leaving (anr qual scope s.heap.objs.size f cd) e) (fun _ i6=>CX outer H s E e i6) (fun e' i6=>CX outer H s E e' i6) s'
theorem KH {sc:apo} {n:Nat} {x:Str} (h:sc.names.lookup x=some .cell):∃ c,(cellsFrom n sc.names []).lookup x=some c:=by
 have q:=aqj sc.names n [] (.inl h)
 exact amS.mp q
theorem Tn {CX:dY} {P:alr} {w:alS} {K:ak2} {mg:Str->Option ak3} {base:amH} {N ps:List Str} {qual:Str} {scope:apo} {f:ala} {cd:ak3} {A:alY} {outer:List Env} {s s1:ak7} {H:Hp} {E:XK} {us:List ak3} {vs:List V}
 (S:aU N ps scope) (hd:A.handled=none) (e0:kI P w K mg base A outer s H) (hl:vs.length=ps.length) (r:Vals vs us)
 (x:InCallC s s.heap.objs.size (atm (anr qual scope s.heap.objs.size f cd).kindOf (ps.zip us) fun _=>none) (cellsFrom (s.heap.objs.size+1) scope.names []) (atn (anr qual scope s.heap.objs.size f cd).kindOf (ps.zip us) fun _=>none) s1) :
 Inv (fR CX P w K mg base N qual scope f cd A outer s H E) [] (start N vs) H s1:=by
 have fm:ps.length<=N.length:=by have:=congrArg List.length S.pre;rw[ao2] at this;omega
 obtain⟨h1,tk,rfl,hk⟩:=x.done
 have fS:∀ b:ala,b∉(fR CX P w K mg base N qual scope f cd A outer s H E).ex:=fun b z=>absurd (show b∈([]:List ala) from z) (by simp)
 refine⟨⟨e0.mod,S.kind,rfl,rfl,alm _,fun y z c h1 h2=>?_,fun y hy=>?_,fun y c _ h=>?_,fun _=>hd,Around.frames_deeper e0.frames,.inr ⟨rfl,rfl⟩,fun b z=>absurd z (fS b),e0.bs,e0.bsz,fun b _ _=>fS b,fun b z=>absurd z (fS b),e0.gi,e0.frf⟩,
  rfl,e0.bare,Un.kept hk,⟨_,x.toInCall.ns,fun i y v h1 h2 h3=>?_⟩,fun y c h=>⟨_,x.cell y c h⟩,e0.ao.fresh (alm _),fun y c h=>?_,fun p hp=>absurd (show p∈([]:List (ala × Obj)) from hp) (by simp),e0.ao.kept hk,?_⟩
 ·exact name_of_addr x.apart (ank h1) (ank h2)
 ·have hy:scope.names.lookup y=some .cell∨scope.names.lookup y=some .free:=hy
  rcases hy with hy|hy
  ·exact KH hy
  ·exact absurd rfl (S.nofree _ (ank hy))
 ·exact aoW (x.above y c (ank h))
 ·have hi:i<vs.length:=by
   unfold start at h2
   by_cases hi:i<vs.length
   ·exact hi
   ·rw[amk (by simpa using hi)] at h2
    rw[aou] at h2
    split at h2<;>cases h2
  have ha:vs[i]?=some v:=by
   unfold start at h2
   rw[al7 (by simpa using hi),alz] at h2
   cases e:vs[i]? with
   | none=>rw[e] at h2;cases h2
   | some a=>rw[e] at h2;cases h2;rfl
  obtain⟨u,hu,rv⟩:=r.get ha
  have hp:ps[i]?=some y:=by
   rw[<- S.pre,List.getElem?_take_of_lt (by omega)];exact h1
  have KI:ps.Nodup:=by rw[<- S.pre];exact S.nd.sublist (List.take_sublist _ _)
  refine⟨u,rv,?_⟩
  rcases S.par y (alx hp) with k|k
  ·exact .inl ⟨k,KD KI hp hu k⟩
  ·obtain⟨c,e⟩:=KH (n:=s.heap.objs.size+1) k
   refine .inr ⟨.inl k,c,e,?_⟩
   have q:=x.cell y c e
   rw[KG KI hp hu (by show scope.names.lookup y≠_;rw[k];decide)] at q
   exact q
 ·exact e0.ao.fresh (aoW (x.above y c (ank h)))
 ·unfold start
  show _=N.length
  rw[alD,ak8,aqD]
  omega
theorem KJ {CX:dY} {P:alr} {w:alS} {K:ak2} {mg:Str->Option ak3} {base:amH} {k:Nat} {f:ala} {name qual:Str} {params:Arguments} {body:List anD} {scope:apo} {dV kV doc pm aI ct oc:ak3} {an od:Option ala}
 {i7:Array (Option ak3)} {N ps:List Str} {sp:Sp} (lk:K.lookup f=some ⟨oc,od,.func (alh name qual params body scope dV kV doc pm an aI ct),i7⟩) (fi:ald K aI qual=true) (S:aU N ps scope)
 (len:∀ vs H Q E,sp vs H Q E->vs.length=ps.length)
 (rZ:∀ (A:alY) (outer:List Env) (s:ak7) (H:Hp) (vs:List V) (Q:VK) (E:XK),ck k (A.deeper (anr qual scope s.heap.objs.size f aI))->sp vs H Q E ->
   ∃ t,bw (fR CX P w K mg base N qual scope f aI A outer s H E) body t/\t { nx:=fun _ H'=>Q .non H',rt:=Q } (start N vs) H) :
 aL P w K mg base CX (k+1) f (alh name qual params body scope dV kV doc pm an aI ct) ps sp:=by
 refine⟨len,fun A outer s H args us vs Q E hr e0 hb r jP=>?_⟩
 have hl:=len _ _ _ _ jP
 have KX:K.In s.heap:=e0.mod.kin.keeps fun b o e=>(e0.bs b o e).1
 have lim:s.heap.NoLimit:=e0.mod.nolimit.keeps fun b o e=>(e0.bs b o e).1
 have To:∀ y∈ps.zip us,scope.names.lookup y.1=some .local∨(scope.names.lookup y.1=some .cell/\((cellsFrom (s.heap.objs.size+1) scope.names []).lookup y.1).isSome=true):=fun ⟨n,v⟩ hy=>by
  rcases S.par n (aqC hy).1 with q|q
  ·exact .inl q
  ·exact .inr ⟨q,aqj _ _ _ (.inl q)⟩
 refine codeAny_call_function hr.depth (KX _ _ lk) rfl S.co S.gen rfl (PySem.W.codeRec_of KX fi) (hb _ _ _ _ ?_)
 refine wpAny_newFunctionEnv_cells S.kind To fun env he s1 x=>?_
 subst he
 refine⟨lim.keeps x.toInCall.keep,codeAny_func ?_⟩
 obtain⟨t,ht,hq⟩:=rZ A outer s H vs Q E (hr.deeper _) jP
 have I:Inv (fR CX P w K mg base N qual scope f aI A outer s H E) [] (start N vs) H s1:=Tn S hr.hd e0 hl r x
 refine amc (ht [] s1 (start N vs) H _ I hq) (fun fl s' hs=>?_) fun e s' hs=>hs
 have fin:∀ {σ':St} {H':Hp} {v:V} {u:ak3},Inv (fR CX P w K mg base N qual scope f aI A outer s H E) [] σ' H' s'->RelV v u->Q v H'->CE outer P w H s Q u s' :=
  fun {σ' H' v u} J rv q=>⟨v,H',J.os,J.bare,J.base,J.ao,rv,q⟩
 cases fl with
 | ret u =>
  obtain⟨v,σ',H',J,rv,q⟩:=hs
  exact fin J rv q
 | next =>
  obtain⟨σ',H',J,q⟩:=hs
  exact fin (v:=V.non) (u:=Value.none) J rfl q
 | brk =>
  obtain⟨_,_,_,q⟩:=hs
  exact ans q
 | cont =>
  obtain⟨_,_,_,q⟩:=hs
  exact ans q
end L2
namespace L2
open PySem PySem.Spec PyProof.Rows
section
variable {X:Cx} {x:Str} {p pos:Pos} {e:am7} {es:List am7} {t:TA} {id T:String} {r:List V->Hp->VK->Prop}
noncomputable def y3 (r:List V->Hp->VK->Prop) (t:TA):TE:=fun σ H Q=>t σ H fun vs H1=>r vs H1 Q
theorem bI (hc:fN X (.builtin id) r) (hg:Gl X x) (hm:X.mg x=none) (hv:amb x=some (.builtin id)) (ha:PA X (e::es) t) (hn:x ≠ "__name__" := by decide) (gR:(x == ("__debug__" : Str))=false:=by decide)
 (he:alM (e::es) X.env=(false,eval e X.env)::alM es X.env:=by rfl) (fm:(anQ pos (alM es X.env)).any (·.1)=false:=by rfl):PE X (.Call (.Name x p) (e::es) [] pos) (y3 r t):=by
 intro pins s σ H Q I h
 refine amW (eW I hg hm hv ?_ hn gR)
 exact aoY (aC (ha pos pins s σ H _ I h) fun us s1 ⟨vs,H1,I1,r1,q1⟩=>hc pins s1 σ H1 vs us Q I1 r1 q1) he fm
theorem r6 (hc:fN X (.type T) r) (hg:Gl X x) (hm:X.mg x=none) (hv:amb x=some (.type T)) (ha:PA X (e::es) t) (hn:x ≠ "__name__" := by decide) (gR:(x == ("__debug__" : Str))=false:=by decide)
 (he:alM (e::es) X.env=(false,eval e X.env)::alM es X.env:=by rfl) (fm:(anQ pos (alM es X.env)).any (·.1)=false:=by rfl):PE X (.Call (.Name x p) (e::es) [] pos) (y3 r t):=by
 intro pins s σ H Q I h
 refine amW (eW I hg hm hv ?_ hn gR)
 exact alW (aC (ha pos pins s σ H _ I h) fun us s1 ⟨vs,H1,I1,r1,q1⟩=>hc pins s1 σ H1 vs us Q I1 r1 q1) he fm
end
end L2
namespace HT
open PySem PyProof.Rows
noncomputable def lexLt:List Int->List Int->Bool
 | [],[]=>false
 | [],_::_=>true
 | _::_,[]=>false
 | x::xs,y::ys=>if x=y then lexLt xs ys else decide (x<y)
theorem kJ (x y:Int) (xs ys:List Int):lexLt (x::xs) (y::ys)=if x=y then lexLt xs ys else decide (x<y):=rfl
section
open PySem.SeqAt
open PySem.AutoSeq1 (wpAny_loadPart')
open PySem.MeetsSeq PySem.MeetsSeq2 PySem.MeetsSeq3
end
section
variable {prog:alr} {w:alS} {A:alY} {E:ak3->ak7->Prop} {s:ak7}
noncomputable def dZ (n d:Nat):Option Int->Nat
 | none=>d
 | some v=>if v<0 then (v+(n:Int)).toNat else min v.toNat n
theorem Tp (n d:Nat):dZ n d none=d:=rfl
theorem Tq (n d k:Nat):dZ n d (some (k:Int))=min k n:=by
 show (if (k:Int)<0 then ((k:Int)+(n:Int)).toNat else min (k:Int).toNat n)=min k n
 rw[if_neg (by omega),al1]
end
end HT
namespace L2
open PySem PySem.Spec PyProof.Rows
noncomputable abbrev TO:=St->Hp->(Option Int->Hp->Prop)->Prop
noncomputable def PO (X:Cx) (e:Option am7) (t:TO):Prop :=
 ∀ (pins:List (ala × Obj)) (s:ak7) (σ:St) (H:Hp) (Q:Option Int->Hp->Prop),Inv X pins σ H s->t σ H Q ->
  alu (model X.prog X.w) X.A (evalPart e X.env) (fun u s'=>∃ o H',Inv X pins σ H' s'/\IsPart u o/\Q o H') X.xe s
noncomputable def KL:TO:=fun _ H Q=>Q none H
noncomputable def KN (t:TE):TO:=fun σ H Q=>t σ H fun x H1=>∃ i,x = .int i/\Q (some i) H1
theorem intsAre_of {ns:List Int}:∀ {us:List ak3},Vals (ns.map V.int) us->ap4 us ns:=by
 induction ns with
 | nil=>intro us r;rw[apw] at r;cases r;exact .nil
 | cons n ns ih =>
  intro us r
  rw[alH] at r
  cases r with
  | cons r1 r2 =>
   obtain⟨t,e⟩:=r1
   subst e
   exact .cons n t (ih r2)
section
variable {X:Cx} {e:am7} {te:TE} {lo hi:Option am7} {tl th:TO} {pos p2:Pos}
theorem Tr:PO X none KL:=by
 intro pins s σ H Q I h
 rw[ars]
 exact ak6 ⟨none,H,I,.none,h⟩
theorem Ts (h:PE X e te):PO X (some e) (KN te):=by
 intro pins s σ H Q I hw
 rw[evalPart_some]
 refine aC (h pins s σ H _ I hw) fun u s1 ⟨x,H1,I1,r1,q1⟩=>?_
 obtain⟨i,rfl,q⟩:=q1
 obtain⟨t,rfl⟩:=r1
 exact⟨some i,H1,I1,.int i t,q⟩
noncomputable def KO (X:Cx) (r:V->Option Int->Option Int->Hp->VK->Prop):Prop :=
 ∀ (pins:List (ala × Obj)) (s:ak7) (σ:St) (H:Hp) (x:V) (v vl vu:ak3) (lo hi:Option Int) (sl:ala) (Q:VK),Inv X pins σ H s->RelV x v->s.heap.IsSliceOf sl vl vu .none->IsPart vl lo->IsPart vu hi->r x lo hi H Q ->
  ∃ T id,arG (.type T) "__getitem__" = pure (some (.builtin id))/\s.TypeIs v T/\alu (model X.prog X.w) X.A (asn v (.ref sl)) (EP X pins σ Q) X.xe s
noncomputable def KP (r:V->Option Int->Option Int->Hp->VK->Prop) (te:TE) (tl th:TO):TE:=fun σ H Q=>te σ H fun x H1=>tl σ H1 fun l H2=>th σ H2 fun u H3=>r x l u H3 Q
theorem Tt {r:V->Option Int->Option Int->Hp->VK->Prop} (hr:KO X r) (he:PE X e te) (hl:PO X lo tl) (hu:PO X hi th):PE X (.Subscript e (.Slice lo hi none p2) pos) (KP r te tl th):=by
 intro pins s σ H Q I h
 refine arH (aC (he pins s σ H _ I h) fun v s1 ⟨x,H1,I1,r1,q1⟩=>?_)
 refine wpAny_Slice (aC (hl pins s1 σ H1 _ I1 q1) fun vl s2 ⟨l,H2,I2,pl,q2⟩=>aC (hu pins s2 σ H2 _ I2 q2) fun vu s3 ⟨u,H3,I3,pu,q3⟩=>?_)
 rw[ars]
 refine ak6 ?_
 have I4:Inv X pins σ H3 { s3 with heap:=s3.heap.push { cls:=.type "slice",data:=.fields #[vl,vu,.none] } }:=I3.kept (t':=s3.toks) fun b ob q=>ak5 _ q
 obtain⟨T,id,hT,ht,hg⟩:=hr pins { s3 with heap:=s3.heap.push { cls:=.type "slice",data:=.fields #[vl,vu,.none] } } σ H3 x v vl vu l u s3.heap.objs.size Q I4 r1 (Heap.IsSliceOf.new ..) pl pu q3
 show alu (model X.prog X.w) X.A (ap5 e (.Slice lo hi none p2) v (.ref s3.heap.objs.size)) (EP X pins σ Q) X.xe { s3 with heap:=s3.heap.push { cls:=.type "slice",data:=.fields #[vl,vu,.none] } }
 exact tail_any (ops:=[.ref s3.heap.objs.size,v]) ht hT hg (by with_unfolding_all rfl)
noncomputable def kK (xs:List V) (lo hi:Option Int):List V:=(xs.drop (HT.dZ xs.length 0 lo)).take (HT.dZ xs.length xs.length hi-HT.dZ xs.length 0 lo)
theorem Tu (xs:List V) (lo hi:Option Int):(kK xs lo hi).length<=xs.length:=by
 unfold kK
 rw[ao2,aqb]
 omega
end
end L2
namespace L2
open PySem PySem.Spec PyProof.Rows
noncomputable def gT (n:Nat) (i:Int):Option Nat:=if 0<=i then (if i<n then some i.toNat else none) else if -(n:Int)<=i then some (i+n).toNat else none
noncomputable def cB {α:Type} (xs:List α) (i:Int):Option α:=(gT xs.length i).bind fun j=>xs[j]?
theorem KQ {n:Nat} {i:Int} {j:Nat} (h:gT n i=some j):seqIndex? i n=some j/\j<n/\-(n:Int)<=i/\i<n:=by
 unfold gT at h
 by_cases h0:0<=i
 ·rw[if_pos h0] at h
  by_cases h1:i<n
  ·rw[if_pos h1] at h
   have e:i.toNat=j:=Option.some.inj h
   exact⟨by rw[aso h0 h1,e],by omega,by omega,h1⟩
  ·rw[if_neg h1] at h;cases h
 ·rw[if_neg h0] at h
  by_cases h1 : -(n:Int)<=i
  ·rw[if_pos h1] at h
   have e:(i+n).toNat=j:=Option.some.inj h
   exact⟨by rw[arU (by omega) h1,e],by omega,h1,by omega⟩
  ·rw[if_neg h1] at h;cases h
theorem y4 {α:Type} {xs:List α} {i:Int} {v:α} (h:cB xs i=some v):∃ j,seqIndex? i xs.length=some j/\xs[j]?=some v/\j<xs.length/\-(xs.length:Int)<=i/\i<xs.length:=by
 unfold cB at h
 cases e:gT xs.length i with
 | none=>rw[e] at h;cases h
 | some j =>
  rw[e] at h
  obtain⟨h1,h2,h3,h4⟩:=KQ e
  exact⟨j,h1,h,h2,h3,h4⟩
theorem dC {α:Type} {xs:List α} {j:Nat} {v:α} (h:xs[j]?=some v):cB xs (j:Int)=some v:=by
 have hj:j<xs.length:=(alj.mp h).1
 have e:gT xs.length (j:Int)=some j:=by
  unfold gT
  rw[if_pos (by omega),if_pos (by omega)];simp
 unfold cB;rw[e];exact h
theorem KR {α:Type} (xs:List α) (v:α):cB (xs++[v]) (-1)=some v:=by
 have hl:(xs++[v]).length=xs.length+1:=by simp
 have e:gT (xs++[v]).length (-1)=some xs.length:=by
  unfold gT
  rw[hl,if_neg (by decide),if_pos (by omega)]
  congr 1
  omega
 unfold cB
 rw[e]
 show (xs++[v])[xs.length]?=some v
 simp
noncomputable def y6 (b:am7):Prop:=∀ o i,subscripted b false o i=operate [o,i] (asn o i)
noncomputable def iz (X:Cx) (r:R2):Prop :=
 ∀ (value slice:am7) (pins:List (ala × Obj)) (s:ak7) (σ:St) (H:Hp) (x y:V) (v u:ak3) (Q:VK),Inv X pins σ H s->RelV x v->RelV y u->r x y H Q ->
  subscripted slice false v u=operate [v,u] (asn v u)->alu (model X.prog X.w) X.A (ap5 value slice v u) (EP X pins σ Q) X.xe s
noncomputable def y7 (X:Cx) (id:String) (r:V->List V->Hp->VK->Prop):Prop :=
 ∀ (pins:List (ala × Obj)) (s:ak7) (σ:St) (H:Hp) (x:V) (xs:List V) (v:ak3) (us:List ak3) (Q:VK),Inv X pins σ H s->RelV x v->Vals xs us->r x xs H Q ->
  alu (model X.prog X.w) X.A (call (.builtin id) (v::us)) (EP X pins σ Q) X.xe s
section
variable {X:Cx} {a b:am7} {ta tb:TE} {pos:Pos}
theorem iz.or {r r':R2} (h:iz X r) (h':iz X r'):iz X (fun x y H Q=>r x y H Q∨r' x y H Q):=by
 intro value slice pins s σ H x y v u Q I rx ry q hs
 rcases q with q|q
 ·exact h value slice pins s σ H x y v u Q I rx ry q hs
 ·exact h' value slice pins s σ H x y v u Q I rx ry q hs
theorem cc {r:R2} (hr:iz X r) (ha:PE X a ta) (hb:PE X b tb) (hs:y6 b):PE X (.Subscript a b pos) (kG r ta tb):=by
 intro pins s σ H Q I h
 exact arH (yO ha hb I h fun v u s2 x y H2 I2 rx ry q=>hr a b pins s2 σ H2 x y v u Q I2 rx ry q (hs _ _))
noncomputable def KS (K:ak2):R2:=fun x y H Q=>∃ p xs i v,x = .ref p/\y = .int i/\ah K H p xs/\cB xs i=some v/\Q v H
noncomputable def KU (K:ak2):R2:=fun x y H Q=>∃ p xs i v,x = .ref p/\y = .int i/\aj K H p xs/\cB xs i=some v/\Q v H
noncomputable def KW:R2:=fun x y H Q=>∃ z i c,x = .str z/\y = .int i/\z.length<=alI/\cB z.cps.toList i=some c/\Q (.str ⟨#[c]⟩) H
theorem Tv:iz X (KS X.K):=by
 intro value slice pins s σ H x y v u Q I rx ry h hs
 obtain⟨p,xs,i,z,rfl,rfl,hq,he,q⟩:=h
 cases rx
 obtain⟨t,rfl⟩:=ry
 obtain⟨ai,r,pl,hz⟩:=I.list hq
 obtain⟨j,h1,h2,h3,h4,h5⟩:=y4 he
 obtain⟨w,ew,gU⟩:=r.get h2
 have hl:=r.length
 have hn:=rY
 have fin:EP X pins σ Q w s:=⟨z,H,I,gU,q⟩
 by_cases h0:0<=i
 ·have hj:i.toNat=j:=by
   rw[aso h0 h5] at h1
   exact Option.some.inj h1
  exact item_listR pl.isList h0 (by omega) (by rw[hj];simpa using ew) fin hs
 ·have hj:(i+(ai.toArray.size:Int)).toNat=j:=by
   rw[arU (by omega) h4] at h1
   rw[alo,<- hl]
   exact Option.some.inj h1
  exact aqk (x:=w) pl.isList.typeIs slot_list_getitem.lookup
   (wpAny_getItem_list_neg (Q:=fun r s'=>r=w/\EP X pins σ Q r s') pl.isList (by omega) (by rw[alo]<;>omega) (by omega) (by rw[hj];simpa using ew) ⟨rfl,fin⟩) hs
theorem Tw:iz X (KU X.K):=by
 intro value slice pins s σ H x y v u Q I rx ry h hs
 obtain⟨p,xs,i,z,rfl,rfl,hq,he,q⟩:=h
 cases rx
 obtain⟨t,rfl⟩:=ry
 obtain⟨ai,r,pl,hz⟩:=I.tuple hq
 obtain⟨j,h1,h2,h3,h4,h5⟩:=y4 he
 obtain⟨w,ew,gU⟩:=r.get h2
 have hl:=r.length
 have hn:=rY
 have fin:EP X pins σ Q w s:=⟨z,H,I,gU,q⟩
 exact aqk (x:=w) pl.typeIs slot_tuple_getitem.lookup
  (getItem_tuple (j:=j) (Q:=fun r s'=>r=w/\EP X pins σ Q r s') pl (by omega) (by omega) (by rw[alo,<- hl];exact h1) (by simpa using ew) ⟨rfl,fin⟩) hs
theorem Tz:iz X KW:=by
 intro value slice pins s σ H x y v u Q I rx ry h hs
 obtain⟨z,i,c,rfl,rfl,hz,he,q⟩:=h
 obtain⟨t,rfl⟩:=rx
 obtain⟨t',rfl⟩:=ry
 obtain⟨j,h1,h2,h3,h4,h5⟩:=y4 he
 have hl:z.cps.toList.length=z.length:=by simp[Str.length]
 rw[hl] at h1 h4 h5
 have hn:=rY
 exact tail_any (typeIs_str s z t) slot_str_getitem.lookup (getItem_str (c:=c) (by
  have e1:decide (i < -(2 ^ 63:Int))=false:=decide_eq_false (by omega)
  have e2:decide (i ≥ 2 ^ 63)=false:=decide_eq_false (by omega)
  rw[e1,e2,Bool.or_false]) (by rw[h1];simpa using h2) ⟨.str ⟨#[c]⟩,H,I.tok _,⟨_,rfl⟩,q⟩) hs
noncomputable def d0 (K:ak2):R2:=fun x y H Q=>KS K x y H Q∨KU K x y H Q∨KW x y H Q
theorem cf:iz X (d0 X.K):=Tv.or (Tw.or Tz)
theorem TC (ai:List ak3) (n j:Nat) (u:ak3):ami (·.setIfInBounds j u) { cls:=.type "list",data:=.seq ai.toArray n } = { cls:=.type "list",data:=.seq (ai.set j u).toArray n }:=by
 simp[ami]
theorem Inv.lst {pins:List (ala × Obj)} {σ:St} {H:Hp} {s:ak7} {p:ala} {xs:List V} (I:Inv X pins σ H s) (h:H p=some (.lst xs)) :
 ∃ (ai:List ak3) (n:Nat),Vals xs ai/\s.heap.get? p=some { cls:=.type "list",data:=.seq ai.toArray n }/\xs.length<=alI:=by
 obtain⟨z,ai,n,r,e⟩:=I.ao p _ h
 exact⟨ai,n,r,e,z⟩
theorem Inv.TF {pins:List (ala × Obj)} {σ:St} {H:Hp} {s:ak7} {p:ala} {xs ys:List V} {ai its':List ak3} {n n':Nat} {f:Obj->Obj} (I:Inv X pins σ H s) (h:H p=some (.lst xs))
 (ho:s.heap.get? p=some { cls:=.type "list",data:=.seq ai.toArray n }) (hf:f { cls:=.type "list",data:=.seq ai.toArray n } = { cls:=.type "list",data:=.seq its'.toArray n' }) (r:Vals ys its') (hz:ys.length<=alI) (t:Nat) :
 Inv X pins σ (upd H p (.lst ys)) { s with heap:=s.heap.update p f,toks:=t }:=by
 have e:(s.heap.update p f).get? p=some { cls:=.type "list",data:=.seq its'.toArray n' }:=by
  rw[alO f ho (by rw[hf]<;>rfl),hf]
 refine I.write (x:=p) (e:=p) (by rw[h];trivial) (.inl rfl) (fun b u hb q=>(alg _ _ (al5 hb)).trans q) ⟨_,e⟩ ?_
 exact⟨hz,its',n',r,e⟩
noncomputable def KY:V->V->V->Hp->(Hp->Prop)->Prop:=fun o i v H Q=>∃ p xs k j,o = .ref p/\i = .int k/\H p=some (.lst xs)/\gT xs.length k=some j/\Q (upd H p (.lst (xs.set j v)))
theorem set_list:Kc X KY:=by
 intro pins s σ H o i v ov iv u Q I ro ri rv h
 obtain⟨p,xs,k,j,rfl,rfl,hp,hj,q⟩:=h
 cases ro
 obtain⟨t,rfl⟩:=ri
 obtain⟨ai,n,r,ho,hz⟩:=I.lst hp
 obtain⟨h1,h2,h3,h4⟩:=KQ hj
 have hl:=r.length
 have hn:=rY
 have I':Inv X pins σ (upd H p (.lst (xs.set j v))) { s with heap:=s.heap.update p (ami (·.setIfInBounds j u)) } :=
  I.TF hp ho (TC ai n j u) (r.set rv j) (by rw[asp];exact hz) s.toks
 by_cases h0:0<=k
 ·have hk:k.toNat=j:=by
   rw[aso h0 h4] at h1
   exact Option.some.inj h1
  exact PySem.W.ki_setAt ho h0 (by omega) (by rw[alo,<- hl];exact h4) (by rw[hk];exact⟨_,I',q⟩)
 ·have hk:(k+(ai.toArray.size:Int)).toNat=j:=by
   rw[arU (by omega) h3] at h1
   rw[alo,<- hl]
   exact Option.some.inj h1
  exact PySem.W.ki_setBack ho (by omega) (by rw[alo,<- hl];exact h3) (by omega) (by rw[hk];exact⟨_,I',q⟩)
theorem TH (lo hi:Option Int) (n:Nat):(aop lo hi none n).1=((HT.dZ n 0 lo:Nat):Int)/\(aop lo hi none n).2.1=((HT.dZ n n hi:Nat):Int)/\(aop lo hi none n).2.2=1:=by
 refine⟨?_,?_,rfl⟩
 ·cases lo with
  | none=>simp[aop,HT.dZ]
  | some i =>
   simp only[aop,HT.dZ,Option.getD_none,show (1:Int) > 0 by decide,if_true]
   by_cases h:i<0
   ·simp only[h,if_true]<;>omega
   ·simp only[h,if_false]<;>omega
 ·cases hi with
  | none=>simp[aop,HT.dZ]
  | some i =>
   simp only[aop,HT.dZ,Option.getD_none,show (1:Int) > 0 by decide,if_true]
   by_cases h:i<0
   ·simp only[h,if_true]<;>omega
   ·simp only[h,if_false]<;>omega
theorem TJ (ai:List ak3) (lo hi:Option Int):asq ai.toArray lo hi none=((ai.drop (HT.dZ ai.length 0 lo)).take (HT.dZ ai.length ai.length hi-HT.dZ ai.length 0 lo)).toArray:=by
 obtain⟨h1,h2,h3⟩:=TH lo hi ai.toArray.size
 unfold asq
 rw[h1,h2,h3]
 simp only[sliceRange_one,pick_run,alo]<;>rfl
noncomputable def KZ (K:ak2):V->Option Int->Option Int->Hp->VK->Prop:=fun x lo hi H Q=>∃ a xs,x = .ref a/\ah K H a xs/\∀ p,H p=none->Q (.ref p) (upd H p (.lst (kK xs lo hi)))
theorem TK:KO X (KZ X.K):=by
 intro pins s σ H x v vl vu lo hi sl Q I rx hs pl pu h
 obtain⟨a,xs,rfl,hx,q⟩:=h
 cases rx
 obtain⟨ai,r,ht,hz⟩:=I.list hx
 have hlen:=r.length
 refine⟨"list",_,slot_list_getitem.lookup,ht.isList.typeIs,?_⟩
 refine apS ht.isList hs pl pu .none (by simp) ?_ (by rw[alo]<;>omega)
 rw[TJ,<- hlen]
 refine⟨.ref s.heap.objs.size,_,I.laid (t':=s.toks) (o:=.lst (kK xs lo hi)) (fun b ob q=>ak5 _ q) (alm _) ?_,rfl,q _ (I.ao.fresh (alm _))⟩
 exact⟨alp (Tu xs lo hi) hz,_,0,(r.drop (HT.dZ xs.length 0 lo)).take (HT.dZ xs.length xs.length hi-HT.dZ xs.length 0 lo),aln _ rfl⟩
noncomputable def i8:V->Bool
 | .non=>true
 | .bl _=>true
 | .int _=>true
 | .str _=>true
 | _=>false
noncomputable def jQ:V->V->Bool
 | .non,.non=>true
 | .bl a,.bl b=>a == b
 | .bl a,.int b=>(if a then 1 else 0) == b
 | .int a,.bl b=>a == (if b then 1 else 0)
 | .int a,.int b=>a == b
 | .str a,.str b=>a == b
 | _,_=>false
theorem TL {A:alY} {s:ak7} {y x:V} {u v:ak3} (ry:RelV y u) (rx:RelV x v) (fy:i8 y=true) (fx:i8 x=true):SeqAt.EqAt A s u v (jQ y x):=by
 cases y with
 | non =>
  cases ry
  cases x with
  | non=>cases rx;exact SeqAt.EqAt.same _
  | bl b=>cases rx;exact SeqAt.EqAt.none_bool b
  | int b=>obtain⟨t,rfl⟩:=rx;exact SeqAt.EqAt.none_int b t
  | str b=>obtain⟨t,rfl⟩:=rx;exact SeqAt.EqAt.none_str b t
  | _=>exact absurd (show false=true from fx) alG
 | bl a =>
  cases ry
  cases x with
  | non=>cases rx;exact SeqAt.EqAt.bool_none a
  | bl b=>cases rx;exact SeqAt.EqAt.bool_bool a b
  | int b=>obtain⟨t,rfl⟩:=rx;exact SeqAt.EqAt.bool_int a b t
  | str b=>obtain⟨t,rfl⟩:=rx;exact SeqAt.EqAt.bool_str a b t
  | _=>exact absurd (show false=true from fx) alG
 | int a =>
  obtain⟨t',rfl⟩:=ry
  cases x with
  | non=>cases rx;exact SeqAt.EqAt.int_none a t'
  | bl b=>cases rx;exact SeqAt.EqAt.int_bool a t' b
  | int b=>obtain⟨t,rfl⟩:=rx;exact SeqAt.EqAt.int_int a t' b t
  | str b=>obtain⟨t,rfl⟩:=rx;exact SeqAt.EqAt.int_str a t' b t
  | _=>exact absurd (show false=true from fx) alG
 | str a =>
  obtain⟨t',rfl⟩:=ry
  cases x with
  | non=>cases rx;exact SeqAt.EqAt.str_none a t'
  | bl b=>cases rx;exact SeqAt.EqAt.str_bool a t' b
  | int b=>obtain⟨t,rfl⟩:=rx;exact SeqAt.EqAt.str_int a t' b t
  | str b=>obtain⟨t,rfl⟩:=rx;exact SeqAt.EqAt.str_str a t' b t
  | _=>exact absurd (show false=true from fx) alG
 | _=>exact absurd (show false=true from fy) alG
noncomputable def eY (x:V) (u:ak3):Bool:=match u with
 | .none=>jQ .non x
 | .bool b=>jQ (.bl b) x
 | .int i _=>jQ (.int i) x
 | .str z _=>jQ (.str z) x
 | _=>false
theorem K0 {x y:V} {u:ak3} (r:RelV y u) (f:i8 y=true):eY x u=jQ y x:=by
 cases y with
 | non=>cases r;rfl
 | bl b=>cases r;rfl
 | int i=>obtain⟨t,rfl⟩:=r;rfl
 | str z=>obtain⟨t,rfl⟩:=r;rfl
 | _=>exact absurd (show false=true from f) alG
theorem r9 {x:V}:∀ {xs:List V} {us:List ak3},Vals xs us->xs.all i8=true->us.any (eY x)=xs.any fun y=>jQ y x
 | _,_,.nil,_=>rfl
 | y::xs,u::us,.cons r t,f=>by
  rw[asX,amM] at f
  rw[amN,amN,K0 r f.1,r9 t f.2]
theorem sd {A:alY} {s:ak7} {x:V} {v:ak3} (rx:RelV x v) (fx:i8 x=true):∀ {xs:List V} {us:List ak3},Vals xs us->xs.all i8=true->∀ u∈us,SeqAt.EqAt A s u v (eY x u)
 | _,_,.nil,_=>fun u hu=>by cases hu
 | y::xs,u::us,.cons r t,f=>fun u' hu=>by
  rw[asX,amM] at f
  rcases alk.mp hu with rfl|hu
  ·rw[K0 r f.1];exact TL r rx f.1 fx
  ·exact sd rx fx t f.2 u' hu
noncomputable def vF (x:V) (xs:List V):Bool:=xs.any fun y=>jQ y x
noncomputable def y9 (K:ak2) (neg:Bool):R2:=fun x y H Q=>∃ p xs,y = .ref p/\(ah K H p xs∨aj K H p xs)/\i8 x=true/\xs.all i8=true/\Q (.bl (if neg then !vF x xs else vF x xs)) H
theorem K1:bp X (amD .In) (y9 X.K false):=by
 intro pins s σ H x y v u Q I rx ry h
 obtain⟨p,xs,rfl,hq,fx,fs,q⟩:=h
 cases ry
 rcases hq with hq|hq
 ·obtain⟨ai,r,pl,hz⟩:=I.list hq
  refine SeqAt.in_listAt (eY x) pl.isList (fun w hw=>sd rx fx r fs w (by simpa using hw)) ⟨.bl _,H,I,rfl,?_⟩
  rw[show ai.toArray.any (eY x)=ai.any (eY x) by simp,r9 r fs]
  exact q
 ·obtain⟨ai,r,pl,hz⟩:=I.tuple hq
  refine SeqAt.in_tupleAt (eY x) pl (fun w hw=>sd rx fx r fs w (by simpa using hw)) ⟨.bl _,H,I,rfl,?_⟩
  rw[show ai.toArray.any (eY x)=ai.any (eY x) by simp,r9 r fs]
  exact q
theorem K2:bp X (amD .NotIn) (y9 X.K true):=by
 intro pins s σ H x y v u Q I rx ry h
 obtain⟨p,xs,rfl,hq,fx,fs,q⟩:=h
 cases ry
 rcases hq with hq|hq
 ·obtain⟨ai,r,pl,hz⟩:=I.list hq
  refine SeqAt.notIn_listAt (eY x) pl.isList (fun w hw=>sd rx fx r fs w (by simpa using hw)) ⟨.bl _,H,I,rfl,?_⟩
  rw[show ai.toArray.any (eY x)=ai.any (eY x) by simp,r9 r fs]
  exact q
 ·obtain⟨ai,r,pl,hz⟩:=I.tuple hq
  refine SeqAt.notIn_tupleAt (eY x) pl (fun w hw=>sd rx fx r fs w (by simpa using hw)) ⟨.bl _,H,I,rfl,?_⟩
  rw[show ai.toArray.any (eY x)=ai.any (eY x) by simp,r9 r fs]
  exact q
theorem za:fN X (.type "list") (fun xs H Q=>∃ p ys,xs=[.ref p]/\(ah X.K H p ys∨aj X.K H p ys)/\∀ l,H l=none->Q (.ref l) (upd H l (.lst ys))):=by
 intro pins s σ H xs us Q I r h
 obtain⟨p,ys,rfl,hq,q⟩:=h
 obtain⟨u,rfl,rx⟩:=vals1 r
 cases rx
 have fin:∀ (ai:List ak3),Vals ys ai->ys.length<=alI->∀ (h':amH) (c':Nat),(∀ b o',s.heap.get? b=some o'->h'.get? b=some o') ->
  h'.get? s.heap.objs.size=some { cls:=.type "list",dict:=none,data:=.seq ai.toArray c',slots:=#[] }->EP X pins σ Q (.ref s.heap.objs.size) { s with heap:=h' }:=fun ai r' hz h' c' kp e =>
  ⟨.ref s.heap.objs.size,_,I.laid (t':=s.toks) kp (alm _) (show bD X.prog X.w _ h' _ (.lst ys) from ⟨hz,ai,c',r',e⟩),rfl,q _ (I.ao.fresh (alm _))⟩
 rcases hq with hq|hq
 ·obtain⟨ai,r',pl,hz⟩:=I.list hq
  have hlen:=r'.length
  obtain⟨o,ho,hc,n,hd⟩:=pl.isList
  exact call_list_seq p (.inl rfl) ho hc hd (fun h' c' kp e=>fin ai r' hz h' c' kp e) (by simp only[alo]<;>omega)
 ·obtain⟨ai,r',pl,hz⟩:=I.tuple hq
  have hlen:=r'.length
  obtain⟨o,ho,hc,n,hd⟩:=pl
  exact call_list_seq p (.inr rfl) ho hc hd (fun h' c' kp e=>fin ai r' hz h' c' kp e) (by simp only[alo]<;>omega)
noncomputable def zb (K:ak2) (T:String) (x:V) (H:Hp):Prop:=match x with
 | .str _=>T = "str"
 | .int _=>T = "int"
 | .ref p=>(T = "list" /\ ∃ xs,ah K H p xs)∨(T = "tuple" /\ ∃ o,K.lookup p=some o/\o.cls = .type "tuple" /\ o.dict=none) ∨
  (T = "dict" /\ ((∃ kvs,H p=some (.dK kvs)) ∨ ∃ kvs,H p=some (.dT kvs)))∨(T = "set" /\ ∃ S n,H p=some (.set S n))
 | _=>False
theorem K3 {pins:List (ala × Obj)} {σ:St} {H:Hp} {s:ak7} {T:String} {x:V} {v:ak3} (I:Inv X pins σ H s) (r:RelV x v) (ty:zb X.K T x H) :
 s.TypeIs v T/\∀ a,v = .ref a->∃ ob,s.heap.get? a=some ob/\ob.dict=none:=by
 cases x with
 | str z =>
  obtain⟨t,rfl⟩:=r
  cases (show T = "str" from ty)
  exact⟨typeIs_str s z t,fun _ e=>nomatch e⟩
 | int i =>
  obtain⟨t,rfl⟩:=r
  cases (show T = "int" from ty)
  exact⟨asQ s i t,fun _ e=>nomatch e⟩
 | ref p =>
  cases r
  rcases ty with ⟨rfl,xs,hq⟩|⟨rfl,o,hk,hc,hd⟩|⟨rfl,hk⟩|⟨rfl,S,n,hk⟩
  ·obtain⟨ai,_,pl,_⟩:=I.list hq
   refine⟨pl.isList.typeIs,fun a e=>?_⟩
   cases e
   obtain⟨o,n,e,c,hd,_⟩:=pl
   exact⟨o,e,hd⟩
  ·refine⟨⟨o,I.cA p o hk,hc⟩,fun a e=>?_⟩
   cases e
   exact⟨o,I.cA _ o hk,hd⟩
  ·have z:∃ o,s.heap.get? p=some o/\o.ExactDict:=by
    rcases hk with ⟨kvs,hk⟩|⟨kvs,hk⟩
    ·obtain⟨_,_,_,_,o,_,_,e,ex,_⟩:=I.ao p _ hk
     exact⟨o,e,ex⟩
    ·obtain⟨_,_,_,_,o,_,_,e,ex,_⟩:=I.ao p _ hk
     exact⟨o,e,ex⟩
   obtain⟨o,e,ex⟩:=z
   refine⟨⟨o,e,ex.1⟩,fun a e2=>?_⟩
   cases e2
   exact⟨o,e,ex.2.1⟩
  ·obtain⟨o,_,_,_,e,ex,_⟩:=I.ao p _ hk
   refine⟨⟨o,e,ex.1⟩,fun a e2=>?_⟩
   cases e2
   exact⟨o,e,ex.2.1⟩
 | _=>exact ans ty
noncomputable def K4 (K:ak2) (T:String) (r:V->List V->Hp->VK->Prop) (to:TE):TE:=fun σ H Q=>to σ H fun x H1=>zb K T x H1/\r x [] H1 Q
noncomputable def K5 (K:ak2) (T:String) (r:V->List V->Hp->VK->Prop) (to:TE) (t:TA):TE:=fun σ H Q=>to σ H fun x H1=>zb K T x H1/\t σ H1 fun xs H2=>r x xs H2 Q
variable {o e:am7} {es:List am7} {to:TE} {t:TA} {name:Str} {apos cg:Pos} {T id:String} {r:V->List V->Hp->VK->Prop}
theorem K6 (pa:PlainAttrs T) (slot:Slot T name id) (kL:typeOf (.builtin id)=pure (.type "method_descriptor")) (hm:y7 X id r) (ho:PE X o to)
 (zc:an5 o name X.env (eval o X.env)=eval o X.env:=by rfl) (zd:(apos.endLine == cg.line)=true:=by rfl):PE X (.Call (.Attribute o name apos) [] [] cg) (K4 X.K T r to):=by
 intro pins s σ H Q I h
 refine wpAny_Call_method0_late zc zd (aC (ho pins s σ H _ I h) fun v s1 ⟨x,H1,I1,r1,ty,q1⟩=>?_)
 obtain⟨h1,h2⟩:=K3 I1 r1 ty
 exact⟨T,id,pa,slot,kL,h1,h2,aoC rfl (PySem.evalArgs_none (hm pins s1 σ H1 x [] v [] Q I1 r1 .nil q1))⟩
theorem i9 (pa:PlainAttrs T) (slot:Slot T name id) (kL:typeOf (.builtin id)=pure (.type "method_descriptor")) (hm:y7 X id r) (ho:PE X o to) (ha:PA X (e::es) t)
 (zc:an5 o name X.env (eval o X.env)=eval o X.env:=by rfl)
 (TM:((anQ cg (alM (e::es) X.env)).all (fun x=>!x.1) && (asf cg (ap3 [] X.env)).all (fun x=>x.1.isSome)
   && decide ((e::es).length+([]:List arF).length+(if ([]:List arF).isEmpty then 0 else 1)<30))=true:=by rfl)
 (zd:(apos.endLine == cg.line)=true:=by rfl) (hs:alM (e::es) X.env=(false,eval e X.env)::alM es X.env:=by rfl) (TN:(anQ cg (alM es X.env)).any (·.1)=false:=by rfl) :
 PE X (.Call (.Attribute o name apos) (e::es) [] cg) (K5 X.K T r to t):=by
 intro pins s σ H Q I h
 refine wpAny_Call_method_late zc TM zd rfl (aC (ho pins s σ H _ I h) fun v s1 ⟨x,H1,I1,r1,ty,q1⟩=>?_)
 obtain⟨h1,h2⟩:=K3 I1 r1 ty
 refine⟨T,id,pa,slot,kL,h1,h2,?_⟩
 have hA:=ha cg pins s1 σ H1 _ I1 q1
 rw[hs] at hA ⊢
 refine aoC (by show (false || (anQ cg (alM es X.env)).any (·.1))=false;rw[TN]<;>rfl) (ao6 ?_)
 exact aC hA fun us s2 ⟨vs,H2,I2,r2,q2⟩=>hm pins s2 σ H2 x vs v us Q I2 r1 r2 q2
end
end L2
namespace L2
open PySem PySem.Spec PyProof.Rows
noncomputable def ze (X:Cx) (id:String) (r:V->List V->Hp->VK->Prop):Prop :=
 ∀ (pins:List (ala × Obj)) (s:ak7) (σ:St) (H:Hp) (x:V) (xs:List V) (v:ak3) (us:List ak3) (Q:VK),Inv X pins σ H s->RelV x v->Vals xs us->r x xs H Q ->
  alu (model X.prog X.w) X.A (call (.builtin id) (v::us)) (EP X pins σ Q) X.xe s
theorem Vals.one:∀ {x:V} {us:List ak3},Vals [x] us->∃ u,us=[u]/\RelV x u
 | _,_,.cons r .nil=>⟨_,rfl,r⟩
theorem Vals.zero:∀ {us:List ak3},Vals [] us->us=[]
 | _,.nil=>rfl
theorem Vals.reverse {xs:List V} {us:List ak3} (h:Vals xs us):Vals xs.reverse us.reverse:=by
 induction h with
 | nil=>exact .nil
 | cons r t ih=>rw[aoL,aoL];exact Vals.append ih (.cons r .nil)
section
variable {X:Cx} {pins:List (ala × Obj)} {σ:St} {H:Hp} {s:ak7} {l b:ala} {xs ys zs:List V}
theorem Inv.zf {ai its':List ak3} {n:Nat} {f:Array ak3->Array ak3} {t':Nat} (I:Inv X pins σ H s) (hH:H l=some (.lst xs))
 (e:s.heap.get? l=some { cls:=.type "list",data:=.seq ai.toArray n }) (hf:f ai.toArray=its'.toArray) (hv:Vals ys its') (hz:ys.length<=alI) :
 Inv X pins σ (upd H l (.lst ys)) { s with heap:=s.heap.update l (ami f),toks:=t' }:=by
 have q:=aqc e f
 rw[hf] at q
 refine I.write (x:=l) (e:=l) (by rw[hH];exact trivial) (.inl rfl) (fun b' u hb hu=>(alg s.heap (ami f) (al5 hb)).trans hu) ⟨_,q⟩ ?_
 exact⟨hz,its',_,hv,q⟩
theorem Inv.TQ {ai:List ak3} {t':Nat} (I:Inv X pins σ H s) (hv:Vals ys ai) (hz:ys.length<=alI) :
 Inv X pins σ (upd H s.heap.objs.size (.lst ys)) { s with heap:=s.heap.push { cls:=.type "list",data:=.seq ai.toArray },toks:=t' } :=
 I.laid (fun _ _ q=>ak5 _ q) (alm _) ⟨hz,ai,0,hv,aln _ rfl⟩
theorem Inv.fresh (I:Inv X pins σ H s):H s.heap.objs.size=none:=I.ao.fresh (alm _)
theorem Inv.se (I:Inv X pins σ H s) (hH:H l=some (.lst xs)):xs.length<=alI/\∃ (ai:List ak3) (n:Nat),Vals xs ai/\xs.length=ai.length/\s.heap.get? l=some { cls:=.type "list",data:=.seq ai.toArray n }:=by
 obtain⟨z,ai,n,r,e⟩:=I.ao l _ hH
 exact⟨z,ai,n,r,r.length,e⟩
end
section
variable {X:Cx}
noncomputable def K7:V->List V->Hp->VK->Prop:=fun x vs H Q=>∃ l xs y,x = .ref l/\vs=[y]/\H l=some (.lst xs)/\xs.length<alI/\Q .non (upd H l (.lst (xs++[y])))
theorem kM:ze X "list.append" K7:=by
 intro pins s σ H x vs v us Q I rx rv h
 obtain⟨l,xs,y,rfl,rfl,hH,hz,q⟩:=h
 cases rx
 obtain⟨u,rfl,ru⟩:=rv.one
 obtain⟨z,ai,n,r,hl,e⟩:=I.se hH
 refine apT apx ⟨_,e,rfl⟩ apc (ao7 _ _) (apU l ai.toArray n u (by rw[alo];omega)) ⟨e,?_⟩
 refine⟨.non,_,I.zf (its':=ai++[u]) hH e (by simp) (r.append (.cons ru .nil)) ?_,rfl,q⟩
 rw[alD,aly]
 omega
noncomputable def K8:V->List V->Hp->VK->Prop:=fun x vs H Q=>∃ l xs,x = .ref l/\vs=[]/\H l=some (.lst xs)/\Q .non (upd H l (.lst xs.reverse))
theorem TR:ze X "list.reverse" K8:=by
 intro pins s σ H x vs v us Q I rx rv h
 obtain⟨l,xs,rfl,rfl,hH,q⟩:=h
 cases rx
 have zg:=rv.zero
 subst zg
 obtain⟨z,ai,n,r,hl,e⟩:=I.se hH
 refine apT F.slot_list_reverse ⟨_,e,rfl⟩ F.entry_list_reverse (F.args_list_reverse_1 _) (AutoSeq1.list_reverse_list_0 l ai.toArray n (by rw[alo];omega)) ⟨e,?_⟩
 refine⟨.non,_,I.zf (its':=ai.reverse) hH e (by simp) r.reverse ?_,rfl,q⟩
 rw[amy]
 omega
noncomputable def TU:V->List V->Hp->VK->Prop:=fun x vs H Q=>∃ l xs,x = .ref l/\vs=[]/\H l=some (.lst xs)/\Q .non (upd H l (.lst []))
theorem TV:ze X "list.clear" TU:=by
 intro pins s σ H x vs v us Q I rx rv h
 obtain⟨l,xs,rfl,rfl,hH,q⟩:=h
 cases rx
 have zg:=rv.zero
 subst zg
 obtain⟨z,ai,n,r,hl,e⟩:=I.se hH
 refine apT F.slot_list_clear ⟨_,e,rfl⟩ F.entry_list_clear (F.args_list_clear_1 _) (AutoSeq1.list_clear_list_0 l ai.toArray n (by rw[alo];omega)) ⟨e,?_⟩
 exact⟨.non,_,I.zf (its':=[]) (ys:=[]) hH e rfl .nil (alv _),rfl,q⟩
noncomputable def La:R2:=fun x y H Q=>∃ l b xs zs,x = .ref l/\y = .ref b/\H l=some (.lst xs)/\H b=some (.lst zs)/\xs.length+zs.length<=alI/\∀ p,H p=none->Q (.ref p) (upd H p (.lst (xs++zs)))
theorem oh:bp X (aok .Add) La:=by
 intro pins s σ H x y v u Q I rx ry h
 obtain⟨l,b,xs,zs,rfl,rfl,hH,hB,hz,q⟩:=h
 cases rx
 cases ry
 obtain⟨z,ai,n,r,hl,e⟩:=I.se hH
 obtain⟨z2,Lb,n2,r2,b5,e2⟩:=I.se hB
 refine PySem.P.add_list e e2 ?_ (by rw[alo,alo];omega)
 have ea:ai.toArray++Lb.toArray=(ai++Lb).toArray:=by simp
 rw[ea]
 exact⟨.ref _,_,I.TQ (t':=s.toks) (r.append r2) (by rw[alD];omega),rfl,q _ I.fresh⟩
end
section
variable {prog:alr} {w:alS} {A:alY} {E:ak3->ak7->Prop} {s:ak7}
set_option maxRecDepth 100000 in
end
section
variable {X:Cx}
end
end L2
namespace zh
open PySem PySem.W PySem.Calls PyProof.Rows
theorem TX {P:Params} {h:amH}:∀ (ns:List Int) (vs:List ak3),WellAll P h vs (ns.map WData.int)->ap4 vs ns:=by
 intro ns
 induction ns with
 | nil =>
  intro vs w
  rw[apw] at w
  cases w
  exact .nil
 | cons n ns ih =>
  intro vs w
  rw[alH] at w
  cases w with
  | cons a b =>
   cases a
   exact .cons _ _ (ih _ b)
theorem TY {l:OpenLaw} {n:Nat} (hn:l.most=some n) {P:Params} {h:amH} {args:List WData} {vals:List ak3}
 (Lc:l.row.toRowW.claim.pre args=true) (TZ:WellAll P h vals args) :
 ∃ a vs ns,vals=[alJ a]/\args=[WData.list (ns.map WData.int)]/\h.get? a=some { cls:=.type "list",data:=.seq vs.toArray }/\ap4 vs ns/\ns.length<=n:=by
 have Ld:WShape.hasAll [] args [.list .int]=true:=(pre_splitW Lc).1
 have hc:l.pre.holds [] { args:=args }=true:=(pre_splitW Lc).2
 obtain⟨d,r,rfl,h1,h2⟩:=hasAllW_cons Ld
 obtain rfl:=hasAllW_nil h2
 obtain⟨xs,rfl,h3⟩:=hasW_list h1
 obtain⟨ns,rfl⟩:=items_int h3
 have hlen:ns.length<=n:=by
  unfold OpenLaw.pre at hc
  have h4:(WTm.not (.lt (.lit (.int (n:Int))) (.len (.arg 0)))).holds [] { args:=[.list (ns.map .int)] }=true:=by
   have h4:=(holds_andW hc).1
   rw[hn] at h4
   exact h4
  have h5:=condW_of h4 (w_not (w_lt w_lit (w_len_list (w_arg rfl))))
  rw[ak8] at h5
  refine arY fun q=>?_
  have q':(n:Int)<((ns.length:Nat):Int):=by omega
  first
   | (rw[decide_eq_true q'] at h5;exact absurd h5 (by decide))
   | (simp at h5;omega)
 cases TZ with
 | cons w1 w2 =>
  cases w2
  cases w1 with
  | list ho hall=>exact⟨_,_,ns,rfl,rfl,ho,TX ns _ hall,hlen⟩
theorem T4 (l:OpenLaw) (args:List WData):l.row.toRowW.claim.post args (.bool true) args=true :=
 postW_of (r:=l.row.toRowW) (X:=(true == true))
  (show WShape.has [] (.bool true) .bool=true by first|rfl|decide|simp[WShape.has,WShape.arms,WShape.armsAll])
  (show (WTm.eq .res (.lit (.bool true))).value [] { args:=args,res:=some (.bool true),after:=args }=some (.bool (true == true)) from w_eq_bool (w_res rfl) w_lit) rfl
section
variable {prog:alr} {w:alS} {A:alY} {E:ak3->ak7->Prop} {s:ak7} {K:Frag}
end
end zh
namespace L2
open PySem PySem.Spec PyProof.Rows
theorem zi:∀ {vs:List ak3} {ns:List Int},ap4 vs ns->Vals (ns.map V.int) vs
 | _,_,.nil=>.nil
 | _,_,.cons n t h=>.cons ⟨t,rfl⟩ (zi h)
noncomputable def Le (H:Hp):Prop:=∀ b,H b=none ∨ ∃ o xs,H b=some (.aX o (.lst xs))
theorem T5 {P:alr} {w:alS} {K:ak2} {mg mb:Str->Option ak3} {CX:dY} {k:Nat} {fa a:ala} {fd:alB} {x:Str} {sp:Sp} {s₁:ak7} {vs:List ak3} {ns:List Int}
 (KX:K.In s₁.heap) (gq:s₁.heap.Ns ale mg) (hb:s₁.heap.Ns asM mb) (T6:∀ x:Str,x ≠ "__name__" -> mb x=amb x) (T7:s₁.heap.NoLimit) (hg:s₁.gens = #[])
 (ha:s₁.heap.get? a=some { cls:=.type "list",data:=.seq vs.toArray }) (hi:ap4 vs ns) (hl:ns.length<=alI) (hr:ck k asr)
 (F:∀ base:amH,K.In base->base.Ns ale mg->aL P w K mg base CX k fa fd [x] sp) (T8:∀ (s:ak7) (u:ak3),asl s fd ⟨[u],[]⟩ [(x,u)])
 (jP:∀ H:Hp,Le H->ah K H a (ns.map V.int)->sp [.ref a] H (fun v _=>v = .bl true) fun _ _ _=>False)
 (T9:∀ H e s',CX [] H s₁ (fun _ _ _=>False) e s'->False) :
 anR (model P w) asr (.call (.ref fa) ⟨[.ref a],[]⟩) (fun r s'=>r = .ok (.ret (.bool true))/\OldK s₁.heap s'.heap/\s'.os=s₁.os/\aqv s'.gens) s₁:=by
 have rv:=zi hi
 have Ua:=hi.length
 have core:∀ H:Hp,Le H->ah K H a (ns.map V.int)->bQ P w H s₁.heap->(∀ b,H b≠none->b=a)->(H a≠none->K.lookup a=none) ->
  anR (model P w) asr (.call (.ref fa) ⟨[.ref a],[]⟩) (fun r s'=>r = .ok (.ret (.bool true))/\OldK s₁.heap s'.heap/\s'.os=s₁.os/\aqv s'.gens) s₁:=by
  intro H hO hS ao hA hK
  have Lf:∀ {b:ala} {o:Obj},s₁.heap.get? b=some o->H b=none->(iY s₁.heap H).get? b=some o:=fun e n=>Sa e n
  have fS:∀ {b:ala} {o:Obj} {es:Array anl} {ep:Nat},s₁.heap.get? b=some o->o.data = .dict es ep->H b=none:=fun {b o es ep} e d=>by
   cases q:H b with
   | none=>rfl
   | some u =>
    have e':b=a:=hA b (by rw[q];simp)
    subst e'
    rw[ha] at e;cases e
    have d':Data.seq vs.toArray _=Data.dict es ep:=d
    cases d'
  have vG:∀ {b:ala} {m:Str->Option ak3},s₁.heap.Ns b m->(iY s₁.heap H).Ns b m:=fun {b m} ⟨o,es,ep,e,d,r⟩=>⟨o,es,ep,Lf e (fS e d),d,r⟩
  have Lg:K.In (iY s₁.heap H):=fun b o e=>Lf (KX b o e) (by
   cases q:H b with
   | none=>rfl
   | some u =>
    have e':b=a:=hA b (by rw[q];simp)
    subst e'
    rw[hK (by rw[q];simp)] at e;cases e)
  have hM:Mod K mg (iY s₁.heap H):=⟨Lg,vG gq,⟨mb,vG hb,T6⟩,let ⟨mc,h1,h2⟩:=T7;⟨mc,vG h1,h2⟩⟩
  have e0:kI P w K mg (iY s₁.heap H) asr [] s₁ H:=⟨rfl,hM,fun b o e=>Sb e,ata (R9 _ _),trivial,fun b hb=>absurd (show b∈([]:List ala) from hb) (by simp),ao,.of_eq hg⟩
  refine aoX ((F _ Lg (vG gq)).run asr [] s₁ H ⟨[.ref a],[]⟩ [.ref a] [.ref a] _ _ hr e0 (T8 s₁ (.ref a)) (.cons rfl .nil) (jP H hO hS)) fun r s' h=>?_
  cases r with
  | error e=>exact (T9 H e s' h).elim
  | ok fl =>
   cases fl with
   | next=>exact ans h
   | brk=>exact ans h
   | cont=>exact ans h
   | ret u =>
    obtain⟨v,H',os,bare,un,Ub,r',q⟩:=h
    have q':v = .bl true:=q
    subst q'
    obtain rfl:u=aoF true:=r'
    refine⟨rfl,OldK.of_keep fun b o e=>?_,os,bare⟩
    cases q:H b with
    | none=>exact un.keep b o e q (by intro z;exact absurd (show b∈([]:List ala) from z) (by simp)) (by simp)
    | some u =>
     rcases hO b with z|⟨ob,xs,z⟩
     ·rw[q] at z;cases z
     ·have z2:=un.eG b ob _ z
      obtain⟨e1,_⟩:=ao b _ z
      obtain⟨e2,_⟩:=Ub b _ z2
      rw[e] at e1;cases e1
      exact e2
 cases hk:K.lookup a with
 | some o =>
  have e:=KX a o hk
  rw[ha] at e
  cases e
  refine core (fun _=>none) (fun _=>.inl rfl) (.inr ⟨_,vs.toArray,_,hk,rfl,rfl,rfl,by rw[alo,Ua];exact hl,by simpa using rv⟩) (fun b u z=>by have z':(none:Option HO)=some u:=z;cases z') (fun b z=>absurd rfl z) fun z=>absurd rfl z
 | none =>
  refine core (fun b=>if b=a then some (.aX { cls:=.type "list",data:=.seq vs.toArray } (.lst (ns.map V.int))) else none) (fun b=>?_) (.inl (.inr ⟨{ cls:=.type "list",data:=.seq vs.toArray },if_pos rfl⟩)) (fun b u z=>?_) (fun b z=>?_) fun _=>hk
  ·by_cases hb:b=a
   ·exact .inr ⟨_,_,if_pos hb⟩
   ·exact .inl (if_neg hb)
  ·by_cases hb:b=a
   ·have z':=(if_pos hb).symm.trans z
    cases z'
    subst hb
    exact⟨ha,by rw[ak8];exact hl,vs,_,rv,ha⟩
   ·have z':=(if_neg hb).symm.trans z
    cases z'
  ·by_cases hb:b=a
   ·exact hb
   ·exact absurd (if_neg hb) z
end L2
namespace L2
open PySem PySem.Spec PyProof.Rows
end L2
namespace L2
open PySem PySem.Spec PyProof.Rows
noncomputable def inClass (s:anD) (j:Nat):anD:=match s with
 | .ClassDef _ _ _ body _ _ _ _ _ _ _=>body.getD j (.Pass ⟨0,0,0,0⟩)
 | _=>.Pass ⟨0,0,0,0⟩
noncomputable def aS (s:anD):Arguments:=match s with
 | .FunctionDef _ a _ _ _ _ _ _ _ _=>a
 | _=>{ posonlyargs:=[],args:=[],vararg:=none,kwonlyargs:=[],kw_defaults:=[],kwarg:=none,defaults:=[] }
noncomputable def aR (s:anD):List anD:=match s with
 | .FunctionDef _ _ b _ _ _ _ _ _ _=>b
 | _=>[]
noncomputable def az (s:anD):apo:=match s with
 | .FunctionDef _ _ _ _ _ _ sc _ _ _=>sc
 | _=>{ kind:=.function,names:=[],isGenerator:=false,isCoroutine:=false }
noncomputable abbrev E0:XK:=fun _ _ _=>False
structure aT (K:ak2) (x qual:Str) (st:anD) (f:ala) (fd:alB):Prop where
 ex:∃ (oc:ak3) (od:Option ala) (kV doc pm:ak3) (an:Option ala) (aI ct:ak3) (i7:Array (Option ak3)),
  fd=alh x qual (aS st) (aR st) (az st) .none kV doc pm an aI ct/\K.lookup f=some ⟨oc,od,.func fd,i7⟩/\ald K aI qual=true
 kp:alc K (.ref f)=true
section
variable {P:alr} {w:alS} {K:ak2} {mg:Str->Option ak3} {base:amH}
theorem aT.binds {x qual:Str} {st:anD} {f:ala} {fd:alB} {ps:List Str} (F:aT K x qual st f fd)
 (h:∀ (kV doc pm:ak3) (an:Option ala) (aI ct:ak3) (us:List ak3),us.length=ps.length->bindArgs (alh x qual (aS st) (aR st) (az st) .none kV doc pm an aI ct) ⟨us,[]⟩=pure (ps.zip us)):Binds K fd ps []:=by
 obtain⟨oc,od,kV,doc,pm,an,aI,ct,i7,rfl,lk,fi⟩:=F.ex
 exact .all (h kV doc pm an aI ct)
theorem aW {x qual:Str} {st:anD} {f:ala} {oc:ak3} {od an:Option ala} {i7:Array (Option ak3)} {kV doc pm aI ct:ak3} (l:K.lookup f=some ⟨oc,od,.func (alh x qual (aS st) (aR st) (az st) .none kV doc pm an aI ct),i7⟩)
 (c:ald K aI qual=true) (k:alc K (.ref f)=true):aT K x qual st f (alh x qual (aS st) (aR st) (az st) .none kV doc pm an aI ct):=⟨⟨oc,od,kV,doc,pm,an,aI,ct,i7,rfl,l,c⟩,k⟩
end
theorem cQ {A:alY} {k:Nat} (hr:ck k A):A.units+1<apr:=al9 (Nat.add_le_add_left (by decide:1<=64) _) hr.units
section
variable {X:Cx}
theorem pv (i:Nat) {x:Str} {pos:Pos} (hN:X.N[i]?=some x:=by rfl) (hv:vg X.env.scope x:=by first|exact als rfl|exact ass (als rfl)|exact ass (ass rfl)) (hd:(x == ("__debug__" : Str))=false:=by decide)
 (fi:(x == ("__classdict__" : Str))=false:=by decide):PE X (.Name x pos) (yC i):=Sh hN hv hd fi
end
noncomputable def ak (H H':Hp):Prop:=∀ b o,H b=some o->H' b=some o
theorem ak.refl (H:Hp):ak H H:=fun _ _ h=>h
theorem ak.trans {H H1 H2:Hp} (a:ak H H1) (b:ak H1 H2):ak H H2:=fun c o h=>b c o (a c o h)
theorem ak.free {H H':Hp} (e:ak H H') {l:ala} (h:H' l=Option.none):H l=Option.none:=by
 cases q:H l with
 | none=>rfl
 | some o =>
  rw[e l o q] at h
  cases h
theorem ak.seq {K:ak2} {H H':Hp} {a:ala} {xs:List V} (e:ak H H') (h:ah K H a xs):ah K H' a xs:=by
 rcases h with (h|⟨o,h⟩)|h
 ·exact .inl (.inl (e _ _ h))
 ·exact .inl (.inr ⟨o,e _ _ h⟩)
 ·exact .inr h
end L2
namespace L2
open PySem PySem.Spec PyProof.Rows
section
variable {κ:Type} [DecidableEq κ]
noncomputable def bF (kvs:List (κ × V)) (k:κ):Option V:=(kvs.find? fun kv=>decide (kv.1=k)).map (·.2)
noncomputable def putK (kvs:List (κ × V)) (k:κ) (v:V):List (κ × V) :=
 if (kvs.any fun kv=>decide (kv.1=k))=true then kvs.map (fun kv=>if kv.1=k then (kv.1,v) else kv) else kvs++[(k,v)]
noncomputable def ja (kvs:List (κ × V)) (k:κ):List (κ × V):=kvs.filter fun kv=>decide (kv.1≠k)
theorem gu {p:κ × V} {r:List (κ × V)} {k:κ} (e:p.1=k):bF (p::r) k=some p.2:=by simp[bF,amX,e]
theorem gv {p:κ × V} {r:List (κ × V)} {k:κ} (e:¬ p.1=k):bF (p::r) k=bF r k:=by simp[bF,amX,e]
theorem vH (k:κ):∀ kvs:List (κ × V),(kvs.any fun kv=>decide (kv.1=k))=(bF kvs k).isSome
 | []=>rfl
 | p::r=>by
  rw[amN]
  by_cases e:p.1=k
  ·simp only[gu e,decide_eq_true e,Bool.true_or,Option.isSome_some]
  ·rw[gv e,decide_eq_false e,asY];exact vH k r
theorem Lh (k j:κ) (y:V):∀ kvs:List (κ × V),bF (kvs.map fun kv=>if kv.1=k then (kv.1,y) else kv) j=(bF kvs j).map fun x=>if j=k then y else x
 | []=>rfl
 | p::r=>by
  have ih:=Lh k j y r
  rw[alH]
  by_cases h:p.1=k
  ·rw[if_pos h]
   by_cases e:p.1=j
   ·rw[gu (p:=(p.1,y)) e,gu e,Option.map_some,if_pos (e.symm.trans h)]
   ·rw[gv (p:=(p.1,y)) e,gv e,ih]
  ·rw[if_neg h]
   by_cases e:p.1=j
   ·rw[gu (p:=p) e,gu e,Option.map_some,if_neg (fun z=>h (e.trans z))]
   ·rw[gv (p:=p) e,gv e,ih]
theorem Li (k j:κ) (y:V):∀ kvs:List (κ × V),bF kvs k=none->bF (kvs++[(k,y)]) j=if j=k then some y else bF kvs j
 | [],_=>by
  by_cases e:k=j
  ·rw[if_pos e.symm];exact gu (p:=(k,y)) e
  ·rw[if_neg (fun z=>e z.symm)];exact gv (p:=(k,y)) e
 | p::r,hn=>by
  rw[arZ]
  have hk:¬ p.1=k:=fun z=>by rw[gu z] at hn;cases hn
  rw[gv hk] at hn
  have ih:=Li k j y r hn
  by_cases e:p.1=j
  ·rw[gu e,gu e,if_neg (fun z=>hk (e.trans z))]
  ·rw[gv e,gv e,ih]
theorem Uc (kvs:List (κ × V)) (k j:κ) (y:V):bF (putK kvs k y) j=if j=k then some y else bF kvs j:=by
 unfold putK
 by_cases a:(kvs.any fun kv=>decide (kv.1=k))=true
 ·rw[if_pos a,Lh]
  rw[vH] at a
  by_cases e:j=k
  ·obtain⟨x,hx⟩:=amS.mp a
   rw[if_pos e,e,hx,Option.map_some,if_pos rfl]
  ·rw[if_neg e]
   cases bF kvs j with
   | none=>rfl
   | some x=>rw[Option.map_some,if_neg e]
 ·rw[if_neg a]
  refine Li k j y kvs ?_
  rw[vH] at a
  cases q:bF kvs k with
  | none=>rfl
  | some x=>rw[q] at a;exact (a rfl).elim
theorem Lj (kvs:List (κ × V)) (k:κ) (v:V):(putK kvs k v).length<=kvs.length+1:=by
 unfold putK
 split
 ·rw[ak8];omega
 ·rw[alD,amn,anZ];omega
theorem eF.sf {o:Option V} {u:Option ak3} (r:eF o u):o.isSome=u.isSome:=by
 cases o with
 | none=>cases u with
  | none=>rfl
  | some _=>exact (show False from r).elim
 | some _=>cases u with
  | none=>exact (show False from r).elim
  | some _=>rfl
theorem KV.val {kvs:List (κ × V)} {vs:List (κ × ak3)} (r:KV kvs vs) (k:κ):eF (bF kvs k) (arI vs k):=by
 unfold KV at r
 induction r with
 | nil=>exact anE
 | @cons p q ps qs h t ih =>
  obtain⟨h1,h2⟩:=h
  by_cases e:p.1=k
  ·have e':q.1=k:=h1.symm.trans e
   have b:arI (q::qs) k=some q.2:=by simp[arI,amX,e']
   rw[gu e,b];exact h2
  ·have e':¬ q.1=k:=fun z=>e (h1.trans z)
   have b:arI (q::qs) k=arI qs k:=by simp[arI,amX,e']
   rw[gv e,b];exact ih
theorem KV.any {kvs:List (κ × V)} {vs:List (κ × ak3)} (r:KV kvs vs) (k:κ):(kvs.any fun kv=>decide (kv.1=k))=vs.any fun kv=>decide (kv.1=k):=by
 unfold KV at r
 induction r with
 | nil=>rfl
 | cons h t ih=>rw[amN,amN,ih,h.1]
theorem KV.oi {kvs:List (κ × V)} {vs:List (κ × ak3)} (r:KV kvs vs) (k:κ) {y:V} {u:ak3} (ry:RelV y u) :
 KV (kvs.map fun kv=>if kv.1=k then (kv.1,y) else kv) (vs.map fun kv=>if kv.1=k then (kv.1,u) else kv):=by
 unfold KV at r ⊢
 induction r with
 | nil=>exact .nil
 | @cons p q ps qs h t ih =>
  rw[alH,alH]
  refine .cons ?_ ih
  obtain⟨h1,h2⟩:=h
  by_cases e:p.1=k
  ·rw[if_pos e,if_pos (h1.symm.trans e)];exact⟨h1,ry⟩
  ·rw[if_neg e,if_neg (fun z=>e (h1.trans z))];exact⟨h1,h2⟩
theorem KV.put {kvs:List (κ × V)} {vs:List (κ × ak3)} (r:KV kvs vs) (k:κ) {y:V} {u:ak3} (ry:RelV y u):KV (putK kvs k y) (stored vs k u):=by
 unfold putK stored
 rw[r.any k]
 by_cases e:(vs.any fun kv=>decide (kv.1=k))=true
 ·rw[if_pos e,if_pos e];exact r.oi k ry
 ·rw[if_neg e,if_neg e];exact Paired.snoc r ⟨rfl,ry⟩
theorem KV.length {kvs:List (κ × V)} {vs:List (κ × ak3)} (r:KV kvs vs):kvs.length=vs.length:=Paired.length r
theorem Ud (kvs:List (κ × V)) (k:κ):(ja kvs k).length<=kvs.length:=al8 _ _
end
theorem si {P:alr} {w:alS} {k:Key} {u:ak3} (r:RelV (kV k) u):(dS P w).is k u=true:=by
 cases k with
 | inl i=>obtain⟨t,e⟩:=(show ∃ t,u=Value.int i t from r);subst e;exact R5 P w i t
 | inr x=>obtain⟨t,e⟩:=(show ∃ t,u=Value.str x t from r);subst e;exact R6 P w x t
theorem Ll {P:alr} {w:alS}:∀ {ks:List Key} {us:List ak3},Vals (ks.map kV) us->ItemsAre (dS P w) ks us
 | [],_,r=>by rw[apw] at r;cases r;exact .nil
 | k::ks,_,r=>by
  rw[alH] at r
  cases r with
  | cons h t=>exact .cons (si h) (Ll t)
noncomputable abbrev KT (H:Hp):List (List Key × V)->List (List Key × ala × ak3)->Prop:=as7 fun p q=>p.1=q.1/\H q.2.1=some (.tup (p.1.map kV))/\RelV p.2 q.2.2
theorem KT.val {H:Hp} {kvs:List (List Key × V)} {xs:List (List Key × ala × ak3)} (r:KT H kvs xs) (k:List Key):eF (bF kvs k) ((arb xs k).map (·.2)):=by
 induction r with
 | nil=>exact anE
 | @cons p q ps qs h t ih =>
  obtain⟨h1,_,h2⟩:=h
  by_cases e:p.1=k
  ·have e':q.1=k:=h1.symm.trans e
   have b:arb (q::qs) k=some q.2:=by simp[arb,amX,e']
   rw[gu e,b];exact h2
  ·have e':¬ q.1=k:=fun z=>e (h1.trans z)
   have b:arb (q::qs) k=arb qs k:=by simp[arb,amX,e']
   rw[gv e,b];exact ih
theorem KT.oi {H:Hp} {kvs:List (List Key × V)} {xs:List (List Key × ala × ak3)} (r:KT H kvs xs) (k:List Key) {y:V} {u:ak3} (ry:RelV y u) :
 KT H (kvs.map fun kv=>if kv.1=k then (kv.1,y) else kv) (xs.map (putAt k u)):=by
 induction r with
 | nil=>exact .nil
 | @cons p q ps qs h t ih =>
  rw[alH,alH]
  refine .cons ?_ ih
  obtain⟨h1,h2,h3⟩:=h
  unfold putAt
  by_cases e:p.1=k
  ·rw[if_pos e,if_pos (h1.symm.trans e)];exact⟨h1,h2,ry⟩
  ·rw[if_neg e,if_neg (fun z=>e (h1.trans z))];exact⟨h1,h2,h3⟩
theorem KT.put {H:Hp} {kvs:List (List Key × V)} {xs:List (List Key × ala × ak3)} (r:KT H kvs xs) (k:List Key) {b:ala} {y:V} {u:ak3} (hb:H b=some (.tup (k.map kV))) (ry:RelV y u) :
 KT H (putK kvs k y) (storedH xs k b u):=by
 have e:(kvs.any fun kv=>decide (kv.1=k))=(arb xs k).isSome:=by
  rw[vH,(r.val k).sf,apV]
 unfold putK storedH
 rw[e]
 by_cases q:(arb xs k).isSome=true
 ·rw[if_pos q,if_pos q];exact r.oi k ry
 ·rw[if_neg q,if_neg q];exact Paired.snoc r ⟨rfl,hb,ry⟩
theorem KT.keeps {H H':Hp} {kvs:List (List Key × V)} {xs:List (List Key × ala × ak3)} (r:KT H kvs xs) (ht:∀ b ys,H b=some (.tup ys)->H' b=some (.tup ys)):KT H' kvs xs :=
 Paired.yz r fun _ _ z=>⟨z.1,ht _ _ z.2.1,z.2.2⟩
section
variable {P:alr} {w:alS} {H:Hp} {h:amH} {a:ala}
theorem Lm {u:HO} (ok:bQ P w H h) (e:Rd H a u):bD P w H h a u:=e.ok ok
theorem oj {kvs:List (Key × V)} (ok:bQ P w H h) (e:Rd H a (.dK kvs)):kvs.length<=alI/\(a == am2)=false/\∃ vs,KV kvs vs/\h.DictOf (dS P w) a vs :=
 show bD P w H h a (.dK kvs) from Lm ok e
theorem Ue {kvs:List (Key × V)} (ok:bQ P w H h) (e:H a=some (.dK kvs)):kvs.length<=alI/\(a == am2)=false/\∃ vs,KV kvs vs/\h.DictOf (dS P w) a vs:=oj ok (.inl e)
theorem oo {ks:List Key} (ok:bQ P w H h) (e:H a=some (.tup (ks.map kV))):(apa (dS P w)).is h ks a:=by
 obtain⟨_,ai,r,o,h1,h2,n,h3⟩:=(show bD P w H h a (.tup (ks.map kV)) from ok a _ e)
 exact⟨o,ai.toArray,n,h1,h2,h3,by simpa using Ll r⟩
theorem oq {kvs:List (List Key × V)} (ok:bQ P w H h) (e:Rd H a (.dT kvs)):kvs.length<=alI/\(a == am2)=false /\
 ∃ xs,KT H kvs xs/\h.DictOfH (apa (dS P w)) a xs:=by
 obtain⟨z,y,xs,r,o,es,ep,h1,h2,h3,h4,h5⟩:=(show bD P w H h a (.dT kvs) from Lm ok e)
 refine⟨z,y,xs,r,o,es,ep,h1,h2,h3,h4,fun x hx=>?_,h5⟩
 have all:∀ {l:List (List Key × V)} {m:List (List Key × ala × ak3)},KT H l m->∀ x∈m,(apa (dS P w)).is h x.1 x.2.1:=by
  intro l m q
  induction q with
  | nil=>intro x hx;exact nomatch hx
  | @cons p q ps qs hq t ih =>
   intro x hx
   rcases alk.mp hx with e|hx
   ·subst e
    exact oo ok (by rw[<- hq.1];exact hq.2.1)
   ·exact ih x hx
 exact all r x hx
theorem vI {kvs:List (List Key × V)} (ok:bQ P w H h) (e:H a=some (.dT kvs)):kvs.length<=alI/\(a == am2)=false /\
 ∃ xs,KT H kvs xs/\h.DictOfH (apa (dS P w)) a xs:=oq ok (.inl e)
end
noncomputable def cu (H:Hp) (a:ala) (y:V) (r:Option V):Prop :=
 (∃ kvs k,Rd H a (.dK kvs)/\y=kV k/\r=bF kvs k) ∨ ∃ kvs k b,Rd H a (.dT kvs)/\y = .ref b/\H b=some (.tup (k.map kV))/\r=bF kvs k
noncomputable def jb (H:Hp) (a:ala) (y v:V) (H':Hp):Prop :=
 (∃ kvs k,H a=some (.dK kvs)/\y=kV k/\kvs.length<alI/\H'=upd H a (.dK (putK kvs k v))) ∨
 ∃ kvs k b,H a=some (.dT kvs)/\y = .ref b/\H b=some (.tup (k.map kV))/\kvs.length<alI/\H'=upd H a (.dT (putK kvs k v))
theorem cu.t {H:Hp} {a b:ala} {kvs:List (List Key × V)} {k:List Key} (e:H a=some (.dT kvs)) (eb:H b=some (.tup (k.map kV))):cu H a (.ref b) (bF kvs k):=.inr ⟨kvs,k,b,.inl e,rfl,eb,rfl⟩
theorem jb.t {H:Hp} {a b:ala} {kvs:List (List Key × V)} {k:List Key} {v:V} (e:H a=some (.dT kvs)) (eb:H b=some (.tup (k.map kV))) (hl:kvs.length<alI) :
 jb H a (.ref b) v (upd H a (.dT (putK kvs k v))):=.inr ⟨kvs,k,b,e,rfl,eb,hl,rfl⟩
section
variable {X:Cx} {pins:List (ala × Obj)} {σ:St} {H:Hp} {s:ak7} {a:ala} {y v:V} {u r:ak3} {o:Option V} {A:alY} {E:ak3->ak7->Prop}
theorem Ug {Q:ak3->ak7->Prop} (hu:A.units+1<apr) (I:Inv X pins σ H s) (g:cu H a y (some v)) (ry:RelV y u) (h:∀ w' s',Inv X pins σ H s'->RelV v w'->Q w' s') :
 alu (model X.prog X.w) A (asn (.ref a) u) Q E s:=by
 rcases g with ⟨kvs,k,e,ey,l⟩|⟨kvs,k,b,e,ey,eb,l⟩
 ·subst ey
  obtain⟨z,hd,vs,rel,dd⟩:=oj I.ao e
  obtain⟨w',hw,gU⟩:=eF.some_of (v:=v) (o:=arI vs k) (by rw[l];exact rel.val k)
  exact wpAny_getItem_of (si ry) dd.mapOf hw (h w' _ (I.tok _) gU)
 ·subst ey
  cases (show u=alJ b from ry)
  obtain⟨z,hd,xs,rel,dd⟩:=oq I.ao e
  obtain⟨w',hw,gU⟩:=eF.some_of (v:=v) (o:=(arb xs k).map (·.2)) (by rw[l];exact rel.val k)
  obtain⟨p,hp,d8⟩:=alR.mp hw
  refine wpAny_getItem_heap (am9 hu) (oo I.ao eb) dd hp ?_
  rw[d8]
  exact h w' _ (I.tok _) gU
theorem Uh {Q:ak3->ak7->Prop} (hu:A.units+1<apr) (I:Inv X pins σ H s) (g:cu H a y o) (ry:RelV y u) (h:∀ s',Inv X pins σ H s'->Q (.bool o.isSome) s') :
 alu (model X.prog X.w) A (amD .In u (.ref a)) Q E s:=by
 rcases g with ⟨kvs,k,e,ey,l⟩|⟨kvs,k,b,e,ey,eb,l⟩
 ·subst ey
  obtain⟨z,hd,vs,rel,dd⟩:=oj I.ao e
  refine wpAny_in_of (si ry) hd dd.mapOf ?_
  rw[<- (rel.val k).sf,<- l]
  exact h _ (I.tok _)
 ·subst ey
  cases (show u=alJ b from ry)
  obtain⟨z,hd,xs,rel,dd⟩:=oq I.ao e
  refine wpAny_in_heap (am9 hu) (oo I.ao eb) hd dd ?_
  have q:=(rel.val k).sf
  rw[apV] at q
  rw[<- q,<- l]
  exact h _ (I.tok _)
theorem Ui {Q:ak3->ak7->Prop} (hu:A.units+1<apr) (I:Inv X pins σ H s) (g:cu H a y o) (ry:RelV y u) (h:∀ s',Inv X pins σ H s'->Q (.bool (!o.isSome)) s') :
 alu (model X.prog X.w) A (amD .NotIn u (.ref a)) Q E s:=by
 rcases g with ⟨kvs,k,e,ey,l⟩|⟨kvs,k,b,e,ey,eb,l⟩
 ·subst ey
  obtain⟨z,hd,vs,rel,dd⟩:=oj I.ao e
  refine wpAny_notIn_of (si ry) hd dd.mapOf ?_
  rw[<- (rel.val k).sf,<- l]
  exact h _ (I.tok _)
 ·subst ey
  cases (show u=alJ b from ry)
  obtain⟨z,hd,xs,rel,dd⟩:=oq I.ao e
  refine wpAny_notIn_heap (am9 hu) (oo I.ao eb) hd dd ?_
  have q:=(rel.val k).sf
  rw[apV] at q
  rw[<- q,<- l]
  exact h _ (I.tok _)
theorem zj {h':amH} {t':Nat} {ob:HO} (I:Inv X pins σ H s) (mu:rJ (H a)) (hs:Heap.SameBut a s.heap h') (he:∃ q,h'.get? a=some q) (new:bD X.prog X.w (upd H a ob) h' a ob) :
 Inv X pins σ (upd H a ob) { s with heap:=h',toks:=t' } :=
 I.write (x:=a) (e:=a) mu (.inl rfl) (fun b q hb z=>(hs.2 b hb).trans z) he new
theorem Ln {P:alr} {w:alS} {H':Hp} {h':amH} {kvs:List (Key × V)} {vs:List (Key × ak3)} (z:kvs.length<=alI) (hd:(a == am2)=false) (rel:KV kvs vs) (dd:h'.DictOf (dS P w) a vs) :
 bD P w H' h' a (.dK kvs):=⟨z,hd,vs,rel,dd⟩
theorem Uj {H':Hp} {Q:Unit->ak7->Prop} (hu:A.units+1<apr) (I:Inv X pins σ H s) (g:jb H a y v H') (ry:RelV y u) (rv:RelV v r) (h:∀ s',Inv X pins σ H' s'->Q () s') :
 alu (model X.prog X.w) A (setItem (.ref a) u r) Q E s:=by
 rcases g with ⟨kvs,k,e,ey,l,eH⟩|⟨kvs,k,b,e,ey,eb,l,eH⟩
 ·subst ey eH
  obtain⟨z,hd,vs,rel,dd⟩:=Ue I.ao e
  have hz:vs.length<=alI:=by rw[<- rel.length];exact z
  have hl:(putK kvs k v).length<=alI:=by have:=Lj kvs k v;omega
  refine wpAny_setItem_pairs (hsz:=hz) (si ry) dd fun h' kN hs=>h _ ?_
  have he:∃ q,h'.get? a=some q:=let ⟨q,_,_,hq,_⟩:=kN;⟨q,hq⟩
  exact zj I (by rw[e];exact anE) hs he (Ln hl hd (rel.put k rv) kN)
 ·subst ey eH
  cases (show u=alJ b from ry)
  obtain⟨z,hd,xs,rel,dd⟩:=vI I.ao e
  have hz:xs.length<=alI:=by rw[<- Paired.length rel];exact z
  have hl:(putK kvs k v).length<=alI:=by have:=Lj kvs k v;omega
  refine wpAny_setItem_heap (hsz:=hz) (am9 hu) (oo I.ao eb) dd fun h' kN hs=>h _ ?_
  obtain⟨q,es,ep,hq,h2,h3,h4,_,h5⟩:=kN
  refine zj I (by rw[e];exact anE) hs ⟨q,hq⟩ ⟨hl,hd,_,(rel.put k eb rv).keeps fun c ys ec=>?_,q,es,ep,hq,h2,h3,h4,h5⟩
  rw[aH (vf ec e (fun z=>nomatch z))]
  exact ec
end
section
variable {X:Cx} {pins:List (ala × Obj)} {σ:St} {H:Hp} {s:ak7} {a:ala} {kvs:List (Key × V)} {k:Key} {u:ak3} {A:alY} {E:ak3->ak7->Prop}
end
noncomputable def zk (i:am7):Prop:=∀ ov iv,subscripted i false ov iv=operate [ov,iv] (asn ov iv)
theorem Uk {prog:alr} {w:alS} {A:alY} {E:ak3->ak7->Prop} {s:ak7} {env:Env} {value slice:am7} {pos:Pos} {T id:String} {Q:ak3->ak7->Prop}
 (hl:arG (.type T) "__getitem__" = pure (some (.builtin id))) (hs:zk slice)
 (h:alu (model prog w) A (eval value env) (fun o s₁=>alu (model prog w) A (eval slice env) (fun i s₂=>s₂.TypeIs o T/\alu (model prog w) A (asn o i) Q E s₂) E s₁) E s) :
 alu (model prog w) A (eval (.Subscript value slice pos) env) Q E s:=by
 refine arH (amc h (fun o s₁ h₁=>amc h₁ (fun i s₂ h₂=>?_) fun _ _ x=>x) fun _ _ x=>x)
 obtain⟨hT,h₂⟩:=h₂
 unfold ap5
 refine ak1 ?_
 rw[getitemInPython_of_ne hT.not_modules]
 refine ak1 (apd hT hl ?_)
 have fin:alu (model prog w) A (subscripted slice false o i) (fun r s₃=>alu (model prog w) A (letTemporaryGo value o r >>= fun _=>pure r) Q E s₃) E s₂:=by
  rw[hs o i]
  exact wpAny_operating (amc h₂ (fun r s₃ h₃=>ak1 (wpAny_letTemporaryGo (ak6 h₃))) fun _ _ x=>x)
 first
  | exact ak6 (ak1 fin)
  | exact ak1 (ak6 (ak1 fin))
  | exact ak1 fin
theorem Ul {X:Cx} {pins:List (ala × Obj)} {σ:St} {H:Hp} {s:ak7} {a:ala} {y:V} {o:Option V} (I:Inv X pins σ H s) (g:cu H a y o):s.TypeIs (.ref a) "dict" := by
 rcases g with ⟨kvs,k,e,_,_⟩|⟨kvs,k,b,e,_,_,_⟩
 ·obtain⟨_,_,vs,_,dd⟩:=oj I.ao e
  exact dd.typeIs
 ·obtain⟨_,_,xs,_,dd⟩:=oq I.ao e
  exact dd.typeIs
noncomputable def zm (td ty:TE):TE:=fun σ H Q=>td σ H fun x H1=>ty σ H1 fun y H2=>∃ a v,x = .ref a/\cu H2 a y (some v)/\Q v H2
noncomputable def Lo (ty td:TE):TE:=fun σ H Q=>ty σ H fun y H1=>td σ H1 fun x H2=>∃ a o,x = .ref a/\cu H2 a y o/\Q (.bl o.isSome) H2
noncomputable def Lp (ty td:TE):TE:=fun σ H Q=>ty σ H fun y H1=>td σ H1 fun x H2=>∃ a o,x = .ref a/\cu H2 a y o/\Q (.bl (!o.isSome)) H2
noncomputable def Lq (td ty tv:TE):TS:=fun D σ H=>tv σ H fun v H1=>td σ H1 fun x H2=>ty σ H2 fun y H3=>∃ a H4,x = .ref a/\jb H3 a y v H4/\D.nx σ H4
section
variable {X:Cx} {o i e value:am7} {pos pos' Tc:Pos} {td ty tv:TE}
theorem kO (hu:X.A.units+1<apr) (ho:PE X o td) (hi:PE X i ty) (hs:zk i):PE X (.Subscript o i pos) (zm td ty):=by
 intro pins s σ H Q I h
 refine Uk PySem.F.slot_dict_getitem.lookup hs (aC (ho pins s σ H _ I h) fun u s1 ⟨x,H1,I1,rx,q1⟩=>aC (hi pins s1 σ H1 _ I1 q1) fun iv s2 ⟨y,H2,I2,ry,a,v,ex,g,q2⟩=>?_)
 subst ex
 obtain rfl:u=alJ a:=rx
 exact⟨Ul I2 g,Ug hu I2 g ry fun w' s3 I3 gU=>⟨v,H2,I3,gU,q2⟩⟩
theorem Um (hu:X.A.units+1<apr) (hi:PE X i ty) (ho:PE X o td):PC X .In i o (Lo ty td):=by
 intro pins s σ H Q I h
 refine aC (hi pins s σ H _ I h) fun iv s1 ⟨y,H1,I1,ry,q1⟩=>aC (ho pins s1 σ H1 _ I1 q1) fun u s2 ⟨x,H2,I2,rx,a,ov,ex,g,q2⟩=>?_
 subst ex
 obtain rfl:u=alJ a:=rx
 exact Uh hu I2 g ry fun s3 I3=>⟨.bl ov.isSome,H2,I3,rfl,q2⟩
theorem Lr (hu:X.A.units+1<apr) (hi:PE X i ty) (ho:PE X o td):PC X .NotIn i o (Lp ty td):=by
 intro pins s σ H Q I h
 refine aC (hi pins s σ H _ I h) fun iv s1 ⟨y,H1,I1,ry,q1⟩=>aC (ho pins s1 σ H1 _ I1 q1) fun u s2 ⟨x,H2,I2,rx,a,ov,ex,g,q2⟩=>?_
 subst ex
 obtain rfl:u=alJ a:=rx
 exact Ui hu I2 g ry fun s3 I3=>⟨.bl (!ov.isSome),H2,I3,rfl,q2⟩
theorem zo (hu:X.A.units+1<apr) (ho:PE X o td) (hi:PE X i ty) (hv:PE X value tv) (hs:aqy value (some (.Subscript o i pos')) pos.line X.env=pure false) :
 PS X (.Assign [.Subscript o i pos'] value pos) (Lq td ty tv):=by
 intro pins s σ H D I h
 refine wpAny_Assign_Subscript (aC (hv pins s σ H _ I h) fun r s1 ⟨v,H1,I1,rv,q1⟩=>aC (ho pins s1 σ H1 _ I1 q1) fun u s2 ⟨x,H2,I2,rx,q2⟩=>aC (hi pins s2 σ H2 _ I2 q2) fun iv s3 ⟨y,H3,I3,ry,a,H4,ex,g,q3⟩=>?_) hs
 subst ex
 obtain rfl:u=alJ a:=rx
 exact Uj hu I3 g ry rv fun s4 I4=>⟨σ,H4,I4,q3⟩
end
section
variable {X:Cx} {pos:Pos}
end
structure M1 (X:Cx) (o:am7) (m:Str) (apos:Pos) (e:am7) (cg:Pos):Prop where
 base:an5 o m X.env (eval o X.env)=eval o X.env
 few:((anQ cg (alM [e] X.env)).all (fun x=>!x.1) && (asf cg (ap3 [] X.env)).all (fun x=>x.1.isSome)
  && decide (([e]:List am7).length+([]:List arF).length+(if ([]:List arF).isEmpty then 0 else 1)<30))=true
 line:(apos.endLine == cg.line)=true
 trees:anQ cg (alM [e] X.env)=[(false,eval e X.env)]
structure M2 (X:Cx) (o:am7) (m:Str) (apos:Pos) (e f:am7) (cg:Pos):Prop where
 base:an5 o m X.env (eval o X.env)=eval o X.env
 few:((anQ cg (alM [e,f] X.env)).all (fun x=>!x.1) && (asf cg (ap3 [] X.env)).all (fun x=>x.1.isSome)
  && decide (([e,f]:List am7).length+([]:List arF).length+(if ([]:List arF).isEmpty then 0 else 1)<30))=true
 line:(apos.endLine == cg.line)=true
 trees:anQ cg (alM [e,f] X.env)=[(false,eval e X.env),(false,eval f X.env)]
noncomputable def Ls (H:Hp) (a:ala):Prop:=(∃ kvs,Rd H a (.dK kvs)) ∨ ∃ kvs,Rd H a (.dT kvs)
theorem Uo {X:Cx} {pins:List (ala × Obj)} {σ:St} {H:Hp} {s:ak7} {a:ala} (I:Inv X pins σ H s) (d:Ls H a) :
 s.TypeIs (.ref a) "dict" /\ (∀ b,alJ a = .ref b->∃ ob,s.heap.get? b=some ob/\ob.dict=none)/\(a == am2)=false:=by
 rcases d with ⟨kvs,e⟩|⟨kvs,e⟩
 ·obtain⟨_,hd,vs,_,dd⟩:=oj I.ao e
  refine⟨dd.typeIs,fun b q=>?_,hd⟩
  cases q
  obtain⟨ob,_,_,h1,h2,_⟩:=dd
  exact⟨ob,h1,h2.2.1⟩
 ·obtain⟨_,hd,xs,_,dd⟩:=oq I.ao e
  refine⟨dd.typeIs,fun b q=>?_,hd⟩
  cases q
  obtain⟨ob,_,_,h1,h2,_⟩:=dd
  exact⟨ob,h1,h2.2.1⟩
section
variable {X:Cx} {pins:List (ala × Obj)} {σ:St} {H:Hp} {s:ak7} {a:ala} {y d:V} {u r:ak3} {o:Option V} {A:alY} {E:ak3->ak7->Prop}
end
section
variable {X:Cx} {o e f:am7} {apos cg:Pos} {td ty tx:TE}
end
section
variable {X:Cx} {pins:List (ala × Obj)} {σ:St} {H:Hp} {s:ak7} {a:ala} {kvs:List (Key × V)} {A:alY} {E:ak3->ak7->Prop}
end
section
variable {X:Cx} {pins:List (ala × Obj)} {σ:St} {H:Hp} {s:ak7} {a:ala} {y:V} {u:ak3} {A:alY} {E:ak3->ak7->Prop}
end
end L2
namespace L2
open PySem PySem.Spec PyProof.Rows
section
variable {κ:Type} [DecidableEq κ]
theorem Lu:∀ {l:List κ} {k:κ},l.Nodup->¬ k∈l->(l++[k]).Nodup
 | [],k,_,_=>by simp
 | a::r,k,h,hk=>by
  obtain⟨h1,h2⟩:=amo.mp h
  show (a::(r++[k])).Nodup
  refine amo.mpr ⟨fun m=>?_,Lu h2 fun m=>hk (alk.mpr (ass m))⟩
  rcases alK.mp m with q|q
  ·exact h1 q
  ·exact hk (alk.mpr (als (alP.mp q).symm))
end
end L2
namespace Gz
open PySem PySem.Spec PyProof.Rows L2
noncomputable def Bd (n:Nat) (x:Int):Prop:=x.natAbs<2 ^ n
theorem Bd.up {n m:Nat} {x:Int} (h:Bd n x) (hm:n<=m):Bd m x:=alC h (Nat.pow_le_pow_right (by decide) hm)
theorem Bd.bits {n:Nat} {x:Int} (h:Bd n x):anK x<=n:=by
 unfold anK
 by_cases e:x=0
 ·subst e;simp
 ·have e0:¬ ((x == 0)=true):=by simpa using e
  rw[if_neg e0]
  have hn:x.natAbs≠0:=by lia
  have:=(Nat.log2_lt hn).mpr h
  lia
noncomputable def ot (i j:Int):Prop:=Bd 4000 i/\Bd 4000 j
theorem ot.ok {i j:Int} (h:ot i j):IntMulOk i j :=
 IntMulOk.of_bits (alp h.1.bits (by decide)) (alp h.2.bits (by decide))
section
variable {X:Cx}
theorem Up:bp X (aok .Mult) (rI ot fun i j=>.int (i * j)):=vA fun _ _ _ _ _ _ _ hc q=>mul_int q hc.ok
noncomputable def sj:V->ak3
 | .ref a=>.ref a
 | .ty n=>.type n
 | _=>.none
theorem Uq:fN X (.builtin "isinstance") (fun xs H Q=>∃ x c t b,xs=[x,c]/\cP X.K H x t/\sj c ≠ .none/\amV X.K t (sj c)=some b/\Q (.bl b) H):=by
 intro pins s σ H xs us Q I r h
 obtain⟨x,c,t,b,rfl,ty,hc,e,q⟩:=h
 obtain⟨u,v,rfl,rx,rc⟩:=vals2 r
 have ev:v=sj c:=by
  cases c with
  | ref a=>exact rc
  | ty n=>exact rc
  | non=>exact absurd rfl hc
  | bl _=>exact absurd rfl hc
  | int _=>exact absurd rfl hc
  | str _=>exact absurd rfl hc
  | byt _=>exact absurd rfl hc
  | flt _=>exact absurd rfl hc
 subst ev
 exact Tf I rx ty e fun tk=>⟨.bl b,H,I.tok tk,rfl,q⟩
end
theorem vJ {K:ak2} {t:ak3}:amV K t t=some true:=by
 unfold amV
 rw[if_pos (by simp)]
theorem vK {K:ak2} {a c:String} {b:Bool} (h:asu c=true) (h2:(PySem.fastBuiltinMro a).map (·.contains (.type c))=some b) (h3:(a == c)=false):amV K (.type a) (.type c)=some b:=by
 unfold amV
 have e:¬ ((aoG a == aoG c)=true):=by
  simp only[beq_iff_eq,Value.type.injEq]
  simpa using h3
 rw[if_neg e]
 show (if asu c=true then PySem.W.subIn K (.type a) (.type c) else none)=some b
 rw[if_pos h]
 exact h2
theorem Ur {K:ak2}:amV K (.type "int") (.type "bool")=some false:=vK (by decide +kernel) (by decide +kernel) (by decide)
theorem Us {K:ak2}:amV K (.type "bool") (.type "int")=some true:=vK (by decide +kernel) (by decide +kernel) (by decide)
theorem Ut {K:ak2}:amV K (.type "NoneType") (.type "int")=some false:=vK (by decide +kernel) (by decide +kernel) (by decide)
theorem Uu {K:ak2}:amV K (.type "NoneType") (.type "tuple")=some false:=vK (by decide +kernel) (by decide +kernel) (by decide)
theorem df:amb "len" = some (.builtin "len"):=by decide +kernel
theorem ou:amb "min" = some (.builtin "min"):=by decide +kernel
theorem Lv:amb "max" = some (.builtin "max"):=by decide +kernel
theorem ox:amb "isinstance" = some (.builtin "isinstance"):=by decide +kernel
theorem zq:amb "sorted" = some (.builtin "sorted"):=by decide +kernel
theorem Uv:amb "int" = some (.type "int"):=by decide +kernel
theorem Uw:amb "bool" = some (.type "bool"):=by decide +kernel
theorem kP:amb "list" = some (.type "list"):=by decide +kernel
theorem zr:amb "tuple" = some (.type "tuple"):=by decide +kernel
theorem Lw:amb "enumerate" = some (.type "enumerate"):=by decide +kernel
theorem Ux:amb "zip" = some (.type "zip"):=by decide +kernel
theorem Uy:amb "reversed" = some (.type "reversed"):=by decide +kernel
noncomputable def zt:V->V->Option Bool
 | .int _,.ty n=>if n = "int" then some true else if n = "bool" then some false else none
 | .bl _,.ty n=>if n = "int" then some true else if n = "bool" then some true else none
 | .non,.ty n=>if n = "int" then some false else if n = "tuple" then some false else none
 | _,_=>none
noncomputable def gW (K:ak2) (x c:V) (H:Hp) (Q:VK):Prop:=match zt x c with
 | some b=>Q (.bl b) H
 | none=>∃ t b,cP K H x t/\sj c ≠ .none/\amV K t (sj c)=some b/\Q (.bl b) H
section
variable {X:Cx}
theorem oy:fN X (.builtin "isinstance") (fun xs H Q=>∃ x c,xs=[x,c]/\gW X.K x c H Q):=by
 intro pins s σ H xs us Q I r h
 obtain⟨x,c,rfl,h⟩:=h
 refine Uq pins s σ H _ us Q I r ?_
 cases e:zt x c with
 | none =>
  unfold gW at h
  rw[e] at h
  obtain⟨t,b,h1,h2,h3,h4⟩:=h
  exact⟨x,c,t,b,rfl,h1,h2,h3,h4⟩
 | some b =>
  unfold gW at h
  rw[e] at h
  unfold zt at e
  split at e
  ·rename_i i n
   split at e
   ·rename_i z;subst z;cases e
    exact⟨_,_,_,_,rfl,cP.int i,(fun z=>nomatch z),vJ,h⟩
   ·split at e
    ·rename_i z;subst z;cases e
     exact⟨_,_,_,_,rfl,cP.int i,(fun z=>nomatch z),Ur,h⟩
    ·cases e
  ·rename_i i n
   split at e
   ·rename_i z;subst z;cases e
    exact⟨_,_,_,_,rfl,cP.bl i,(fun z=>nomatch z),Us,h⟩
   ·split at e
    ·rename_i z;subst z;cases e
     exact⟨_,_,_,_,rfl,cP.bl i,(fun z=>nomatch z),vJ,h⟩
    ·cases e
  ·rename_i n
   split at e
   ·rename_i z;subst z;cases e
    exact⟨_,_,_,_,rfl,cP.non,(fun z=>nomatch z),Ut,h⟩
   ·split at e
    ·rename_i z;subst z;cases e
     exact⟨_,_,_,_,rfl,cP.non,(fun z=>nomatch z),Uu,h⟩
    ·cases e
  ·cases e
end
section
variable {K:ak2} {H:Hp} {Q:VK} {i:Int} {b:Bool} {p:ala} {xs:List V}
theorem Uz:gW K (.int i) (.ty "int") H Q=Q (.bl true) H:=rfl
theorem UA:gW K (.int i) (.ty "bool") H Q=Q (.bl false) H:=rfl
theorem UB:gW K (.bl b) (.ty "int") H Q=Q (.bl true) H:=rfl
theorem UC:gW K (.bl b) (.ty "bool") H Q=Q (.bl true) H:=rfl
theorem UD:gW K .non (.ty "int") H Q=Q (.bl false) H:=rfl
theorem UE:gW K .non (.ty "tuple") H Q=Q (.bl false) H:=rfl
theorem zu (h:H p=some (.tup xs)) (q:Q (.bl true) H):gW K (.ref p) (.ty "tuple") H Q:=⟨_,_,cP.tup h,(fun z=>nomatch z),vJ,q⟩
theorem UG (h:H p=some (.lst xs)) (q:Q (.bl true) H):gW K (.ref p) (.ty "list") H Q:=⟨_,_,cP.lst h,(fun z=>nomatch z),vJ,q⟩
end
end Gz
namespace Gz
open PySem PySem.Spec PyProof.Rows L2
noncomputable def aM (P:alr) (w:alS):dY:=fun outer H s E e s' =>
 ∃ (x:ala) (cls a0:ak3) (H':Hp) (B:amH),e = .ref x/\s'.os=s.os/\aqv s'.gens/\Un (bf outer) [] H H' s.heap s'.heap /\
  (∀ b o,s.heap.get? b=some o->H b=none->b∉bf outer->B.get? b=some o)/\(∀ b o,s.heap.get? b=some o->b∉bf outer->∃ o',B.get? b=some o')/\bQ P w H' B/\H' x=none/\s.heap.get? x=none /\
  Heap.FlyingW B outer x cls a0 s'.heap/\E cls none H'
theorem aB {P:alr} {w:alS} {X:Cx}:Passes (aM P w) X E0:=fun _ _ _ _ _ _ _ ⟨_,_,_,_,_,_,_,_,_,_,_,_,_,_,_,h⟩=>h.elim
theorem UH {P:alr} {w:alS} {outer:List Env} {H:Hp} {s s':ak7} {e:ak3} (h:aM P w outer H s (fun _ _ _=>False) e s'):False:=by
 obtain⟨_,_,_,_,_,_,_,_,_,_,_,_,_,_,_,h⟩:=h
 exact h
section
variable {P:alr} {w:alS} {K:ak2} {mg:Str->Option ak3} {base:amH}
theorem okN {x qual:Str} {st:anD} {f:ala} {fd:alB} {N ps:List Str} {k:Nat} {sp:Sp} (F:aT K x qual st f fd) (S:aU N ps (az st)) (len:∀ vs H Q E,sp vs H Q E->vs.length=ps.length)
 (rZ:∀ (aI:ak3) (A:alY) (outer:List Env) (s:ak7) (H:Hp) (vs:List V) (Q:VK) (E:XK),ck k (A.deeper (anr qual (az st) s.heap.objs.size f aI))->sp vs H Q E ->
   ∃ t,bw (fR (aM P w) P w K mg base N qual (az st) f aI A outer s H E).vw (aR st) t/\t { nx:=fun _ H'=>Q .non H',rt:=Q } (start N vs) H):aL P w K mg base (aM P w) (k+1) f fd ps sp:=by
 obtain⟨oc,od,kV,doc,pm,an,aI,ct,i7,rfl,lk,fi⟩:=F.ex
 refine KJ lk fi S len fun A outer s H vs Q E hr jP=>?_
 obtain⟨t,h,q⟩:=rZ aI A outer s H vs Q E hr jP
 exact⟨t,h.vw,q⟩
end
theorem UI (a b:Int):i4 (.int a) (.int b)=true:=rfl
theorem UJ (a b:Bool):i4 (.bl a) (.bl b)=true:=rfl
theorem UK (a:Int):i4 (.int a) .non=true:=rfl
theorem UL (a:Int):i4 .non (.int a)=true:=rfl
theorem UM:i4 .non .non=true:=rfl
theorem ite_tt {A B:Prop}:(if true=true then A else B)=A:=if_pos rfl
theorem ite_ff {A B:Prop}:(if false=true then A else B)=B:=if_neg alG
end Gz
namespace Gz
open PySem PySem.Spec PyProof.Rows L2
theorem UN {CX:dY} {P:alr} {w:alS} {K:ak2} {mg:Str->Option ak3} {base:amH} {N:List Str} {qual:Str} {scope:apo} {f:ala} {cd:ak3} {A:alY} {outer:List Env} {s:ak7} {H:Hp} {E:XK} :
 (fR CX P w K mg base N qual scope f cd A outer s H E).K=K:=rfl
theorem UO {CX:dY} {P:alr} {w:alS} {K:ak2} {mg:Str->Option ak3} {base:amH} {N:List Str} {qual:Str} {scope:apo} {f:ala} {cd:ak3} {A:alY} {outer:List Env} {s:ak7} {H:Hp} {E:XK} :
 (fR CX P w K mg base N qual scope f cd A outer s H E).N=N:=rfl
section
variable {K:ak2} {H H':Hp} {a p:ala} {xs ys:List V} {i:Int} {v:V} {Q:VK}
theorem ax {o:HO} (h:H p=none):ak H (upd H p o):=fun b u e=>by rw[aH (gL e h)];exact e
theorem aA (h:aj K H p xs) (e:cB xs i=some v) (q:Q v H):d0 K (.ref p) (.int i) H Q:=.inr (.inl ⟨p,xs,i,v,rfl,rfl,h,e,q⟩)
theorem aP (h:ah K H p xs) (e:cB xs i=some v) (q:Q v H):d0 K (.ref p) (.int i) H Q:=.inl ⟨p,xs,i,v,rfl,rfl,h,e,q⟩
theorem d9 (h:ah K H p xs):yT K (.ref p) H xs.length:=.inl ⟨xs,h,rfl⟩
theorem kQ (h:aj K H p xs):yT K (.ref p) H xs.length:=.inr ⟨xs,h,rfl⟩
end
noncomputable def isWhole:V->Bool
 | .int _=>true
 | _=>false
end Gz
namespace Gz
open PySem PySem.Spec PyProof.Rows L2
noncomputable def FJ (J:It) (g:TG) (tb:TS) (D:Ends) (σ:L2.St) (H:Hp):Prop:=∃ W:Nat->Nat->L2.St->Hp->Prop,(∃ m,W 0 m σ H)/\∀ i m σ H,W i m σ H ->
 (J.stop i H/\D.nx σ H)∨(J.go i H/\∃ N:L2.St->Hp->Prop,(∀ σ' H',N σ' H'->∃ m',m'<m/\W (i+1) m' σ' H')/\∀ x H',J.yld i H x H'->g x σ H' fun σ2 H2=>tb { D with nx:=N,ct:=N,bk:=D.nx } σ2 H2)
section
variable {K:ak2} {g:TG} {tb:TS} {D:Ends} {σ:L2.St} {H:Hp} {a:ala} {xs:List V} {lo:Int} {n:Nat}
theorem UP {ta:TA}:ix (yL ta) g tb D σ H=ta σ H (fun vs H1=>∃ j:Int,vs=[.int j]/\-(2 ^ 62)<=j/\j<2 ^ 62/\FJ (gN 0 j.toNat) g tb D σ H1):=rfl
theorem UQ {tl:TE}:ix (yI K tl) g tb D σ H=tl σ H (fun x H1=>∃ a,x = .ref a/\(∃ xs,ah K H1 a xs)/\FJ (iu K a) g tb D σ H1):=rfl
theorem UR {tl:TE}:ix (yJ K tl) g tb D σ H=tl σ H (fun x H1=>∃ a,x = .ref a/\(∃ xs,aj K H1 a xs)/\FJ (rR K a) g tb D σ H1):=rfl
theorem kR (Pv:Nat->L2.St->Hp->Prop) (h0:Pv 0 σ H)
 (hs:∀ i σ H,i<n->Pv i σ H->g (.int (lo+i)) σ H fun σ2 H2=>tb { D with nx:=Pv (i+1),ct:=Pv (i+1),bk:=D.nx } σ2 H2) (hd:∀ σ H,Pv n σ H->D.nx σ H):FJ (gN lo n) g tb D σ H:=Sx Pv h0 hs hd
theorem jc (Pv:Nat->L2.St->Hp->Prop) (h0:Pv 0 σ H) (hl:∀ i σ H,i<=xs.length->Pv i σ H->ah K H a xs)
 (hs:∀ i x σ H,xs[i]?=some x->Pv i σ H->g x σ H fun σ2 H2=>tb { D with nx:=Pv (i+1),ct:=Pv (i+1),bk:=D.nx } σ2 H2) (hd:∀ σ H,Pv xs.length σ H->D.nx σ H):FJ (iu K a) g tb D σ H:=Sw Pv h0 hl hs hd
end
theorem bq:(2:Nat)<=alI:=by decide
theorem Lx {x:Int} (h:x.natAbs<2 ^ 200):Bd 4000 x:=Bd.up (n:=200) h (by decide)
theorem US {x y:Int} (h:x.natAbs<2 ^ 200) (h':y.natAbs<2 ^ 200):ot x y:=⟨Lx h,Lx h'⟩
end Gz
namespace Gz
open PySem PySem.Spec PyProof.Rows L2
section
variable {X:Cx}
end
section
variable {K:ak2} {H H1:Hp} {l p:ala} {xs ys:List V} {o:HO}
theorem fT (hl:H l=none) (s:ak H H1):ak H (upd H1 l o):=fun b u e=>by
 rw[aH (gL e hl)];exact s b u e
end
end Gz
namespace Gz
open PySem PySem.W PySem.Spec PySem.Calls PyProof.Rows Builtin Builtin.ObjectAttr Builtin.Getset_descriptor
section
variable {prog:alr} {w:alS} {A:alY} {E:ak3->ak7->Prop} {s:ak7} {K:Frag} {x C:ala} {oe:Obj} {R:apQ->ak7->Prop}
end
structure XC (K:Frag) (C:ala):Prop where
 ex:excIn K C [.type "ValueError",.type "Exception",.type "BaseException",.type "object"] "ValueError.__new__" = true
 mo:mroIn K C (.type "object")=some true
 mb:mroIn K C (.type "BaseException")=some true
 ga:findIn K (.ref C) "__getattribute__" = some (some (.builtin "BaseException.__getattribute__"))
 gr:findIn K (.ref C) "__getattr__" = some none
 gc:findIn K (.ref C) "__class__" = some (some (.builtin "object.__class__"))
theorem UT {K:Frag} {h:amH} {C:ala} (X:K.In h) (c:XC K C) :
 ∃ bm N nm q bs hdct sn sub ab col dd k0 k1 k2 k3 k5 mN,h.get? C=some (excClassObj nm q C N bs bm hdct sn sub ab col dd k0 k1 k2 k3 k5 "ValueError.__new__")/\h.Ns N mN/\mN "__init__" = none /\
  OwnTail h [.type "ValueError",.type "Exception",.type "BaseException",.type "object"] bm:=by
 have q:=c.ex
 unfold excIn at q
 split at q
 ·rename_i dd cd sl ho
  split at q
  ·rename_i C' bm k0 k1 k2 k3 n k5 hm hs
   simp only[amM,beq_iff_eq,Bool.not_eq_true'] at q
   obtain⟨⟨⟨⟨⟨rfl,rfl⟩,hdel⟩,ht⟩,ao⟩,hni⟩:=q
   obtain⟨nm,bs,mro,ns,qn,hd,sn,sub,ab,col,del⟩:=cd
   dsimp only at hm hdel ao hni
   subst hm hdel
   have jd:sl = #[k0,k1,k2,k3,some (.builtin "ValueError.__new__"),k5]:=by
    obtain⟨l⟩:=sl
    simp only at hs
    rw[hs]
   subst jd
   exact⟨bm,ns,nm,qn,bs,hd,sn,sub,ab,col,dd,k0,k1,k2,k3,k5,_,X _ _ ho,.of_isNs (isNs_of_in X ao),nsMap_none_of_in X ao hni,tail_of_in X ht⟩
  ·cases q
 ·cases q
end Gz
namespace Gz
open PySem PySem.Spec PyProof.Rows L2
section
variable {X:Cx}
end
end Gz
namespace Gz
open PySem PySem.Spec PyProof.Rows L2
theorem bD.some {P:alr} {w:alS} {H:Hp} {h:amH} {a:ala} {o:HO} (x:bD P w H h a o):∃ ob,h.get? a=some ob:=by
 cases o with
 | lst xs=>obtain⟨_,_,_,_,e⟩:=x;exact⟨_,e⟩
 | tup xs=>obtain⟨_,_,_,o,e,_⟩:=x;exact⟨_,e⟩
 | dK kvs=>obtain⟨_,_,_,_,o,_,_,e,_⟩:=x;exact⟨_,e⟩
 | dT kvs=>obtain⟨_,_,_,_,o,_,_,e,_⟩:=x;exact⟨_,e⟩
 | set S n=>obtain⟨o,_,_,_,e,_⟩:=x;exact⟨_,e⟩
 | ins C dx fs=>obtain⟨_,_,_,e,_⟩:=x;exact⟨_,e⟩
 | own y=>exact x
 | xd fs=>obtain⟨_,⟨_,_,_,e,_⟩,_⟩:=x;exact⟨_,e⟩
 | gK lo hi=>obtain⟨_,_,_,e⟩:=x;exact⟨_,e⟩
 | aX ob u=>obtain⟨e,_⟩:=x;exact⟨_,e⟩
 | tbl ps=>exact⟨_,x⟩
 | met f y=>exact⟨_,x⟩
 | ext φ=>exact x.2.1
noncomputable def Ly (X:Cx) (E:XK):Prop:=∀ (pins:List (ala × Obj)) (σ:L2.St) (H:Hp) (s:ak7) (e C:ala) (vs:List ak3) (h':amH),Inv X pins σ H s->Heap.MadeExcOf s.heap h' e (.ref C) vs->E (.ref C) none H->X.xe (.ref e) { s with heap:=h' }
noncomputable def Lz (C:ala) (E:XK) (ta:TA):TS:=fun D σ H=>ta σ H fun vs H1=>vs.length<=alI/\E (.ref C) none H1
section
variable {X:Cx}
theorem kS {x:Str} {np cg pos:Pos} {e₀:am7} {rest:List am7} {ta:TA} {C:ala} {E:XK} (hx:Ly X E) (hg:Gl X x) (hm:X.mg x=some (.ref C)) (xc:XC X.K C) (hc:X.calm=true) (ha:PA X (e₀::rest) ta)
 (hd:(x == ("__debug__" : Str))=false:=by decide) (he:alM (e₀::rest) X.env=(false,eval e₀ X.env)::alM rest X.env:=by rfl)
 (fm:(anQ cg (alM rest X.env)).any (·.1)=false:=by rfl) :
 PS X (.Raise (some (.Call (.Name x np) (e₀::rest) [] cg)) none pos) (Lz C E ta):=by
 intro pins s σ H D I h
 obtain⟨tl,N,nm,q,bs,hdct,sn,sub,ab,col,dd,k0,k1,k2,k3,k5,mN,hC,hN,hni,T⟩:=UT I.ok.mod.kin xc
 refine wpAny_Raise_call_subU (C:=C) (nm:=nm) (q:=q) (N:=N) (bs:=bs) (bm:=tl) (hdct:=hdct) (sn:=sn) (sub:=sub) (ab:=ab) (col:=col) (dd:=dd) (k0:=k0) (k1:=k1) (k2:=k2) (k3:=k3) (k5:=k5)
  aps (by decide +kernel) aps (mN:=mN) (T.hasType PySem.F.excBase_ValueError.hasBase) (I.ok.hd hc) (by rw[he];show (false || (anQ cg (alM rest X.env)).any (·.1))=false;rw[fm];rfl) hni (vm I hg hm ⟨rfl,?_⟩ hd)
 have sk:=ha cg pins s σ H _ I h
 rw[he] at sk ⊢
 refine ao6 (amc sk (fun us s₂ h₂=>?_) fun _ _ y=>y)
 obtain⟨vs,H1,I1,r,hl,hE⟩:=h₂
 exact⟨rfl,by rw[<- r.length];exact hl,I1.bk _ _ hC,hN.keeps I1.bk,T.keeps I1.bk,fun h' e hm=>hx pins σ H1 s₂ e C us h' I1 hm hE⟩
end
section
variable {P:alr} {w:alS} {K:ak2} {mg:Str->Option ak3} {base:amH} {N:List Str} {qual:Str} {scope:apo} {f:ala} {cd:ak3} {A:alY} {outer:List Env} {s:ak7} {H:Hp} {E:XK}
theorem LA {env:Env} {b L:ala} (hf:env.frame=some L) (h:b∈bf (env::outer)):b=L∨b∈bf outer:=by
 unfold bf at h
 rw[amx,hf] at h
 exact alk.mp h
theorem kT:Ly (fR (aM P w) P w K mg base N qual scope f cd A outer s H E) E:=by
 intro pins σ H1 s1 e C vs h1 I hx hE
 have zv:(fR (aM P w) P w K mg base N qual scope f cd A outer s H E).A.frames=some (anr qual scope s.heap.objs.size f cd::outer):=I.ok.frames
 have hF:s1.heap.FunFrames base (anr qual scope s.heap.objs.size f cd::outer):=I.stack
 have cH:∀ env∈(anr qual scope s.heap.objs.size f cd::outer),∀ b,env.frame=some b->b∈bf (anr qual scope s.heap.objs.size f cd::outer):=fun env he b hb=>apu.mpr ⟨env,he,hb⟩
 have UU:∀ b∈bf (anr qual scope s.heap.objs.size f cd::outer),H1 b=none:=I.rK
 have nX:∀ b o,s.heap.get? b=some o->b≠s.heap.objs.size:=fun b o e=>alA (alb e)
 have iZ:∀ b o,s.heap.get? b=some o->b∉bf outer->b∉bf (anr qual scope s.heap.objs.size f cd::outer):=fun b o e hb z=>by
  rcases LA rfl z with z|z
  ·exact nX b o e z
  ·exact hb z
 have ub:Un (bf outer) [] H H1 s.heap s1.heap:=I.base
 refine wpAny_leaves_madeW (base:=aqu s1.heap (bf (anr qual scope s.heap.objs.size f cd::outer))) zv rfl (fun b o q=>arj _ q) (PySem.W.funFrames_hide hF cH) hx fun h' t fl tup bt up=>?_
 have stays:=fl.1
 have oz:∀ b o,s1.heap.get? b=some o->b∉bf (anr qual scope s.heap.objs.size f cd::outer)->(aqu s1.heap (bf (anr qual scope s.heap.objs.size f cd::outer))).get? b=some o:=fun b o q hb=>aq9 _ q hb
 have sm:∀ b∈bf (anr qual scope s.heap.objs.size f cd::outer),∀ o,s1.heap.get? b=some o->∃ sl,h'.get? b=some { o with slots:=sl }:=fun b hb o q=>by
  obtain⟨_,o',cK,hnf⟩:=hF.mem hb
  rw[q] at cK;cases cK
  exact up b o (hx.keeps b o q) hnf
 refine⟨e,.ref C,.ref t,H1,_,rfl,I.os,I.bare,⟨fun b o q n hb dD=>?_,fun b o q n hb dD=>?_,ub.free,fun b o q dD=>?_,ub.ff,ub.eG,ub.fg⟩,fun b o q n hb=>?_,fun b o q hb=>?_,fun a o q=>?_,?_,?_,fl,hE⟩
 ·exact stays b o (oz b o (ub.keep b o q n hb dD) (iZ b o q hb))
 ·obtain⟨sl,e1⟩:=ub.slot b o q n hb dD
  obtain⟨eV,e2⟩:=sm b (by unfold bf;rw[amx];exact alT _ hb) _ e1
  exact⟨eV,e2⟩
 ·obtain⟨o',e1⟩:=ub.there b o q dD
  by_cases hb:b∈bf (anr qual scope s.heap.objs.size f cd::outer)
  ·obtain⟨sl,e2⟩:=sm b hb o' e1
   exact⟨_,e2⟩
  ·exact⟨o',stays b o' (oz b o' e1 hb)⟩
 ·exact oz b o (ub.keep b o q n hb (by simp)) (iZ b o q hb)
 ·obtain⟨o',e1⟩:=ub.there b o q (by simp)
  exact⟨o',oz b o' e1 (iZ b o q hb)⟩
 ·refine (I.ao a o q).fI (fun b u hb z=>oz b u z fun hm=>?_) (fun _ z=>z) fun _ _ z=>z
  have:=UU b hm
  rcases hb with hb|hb
  ·rw[hb,q] at this;cases this
  ·rw[hb] at this;cases this
 ·cases q:H1 e with
  | none=>rfl
  | some u =>
   obtain⟨ob,z⟩:=bD.some (I.ao e u q)
   rw[hx.new] at z;cases z
 ·cases q:s.heap.get? e with
  | none=>rfl
  | some u =>
   obtain⟨o',z⟩:=ub.there e u q (by simp)
   rw[hx.new] at z;cases z
theorem oA:Passes (aM P w) (fR (aM P w) P w K mg base N qual scope f cd A outer s H E) E:=by
 intro pins σ H1 s1 ev s2 I cx
 obtain⟨x,cls,a0,H',B,rfl,os,bare,un,kb,tb,ao,hx,hn,fl,hE⟩:=cx
 have zv:(fR (aM P w) P w K mg base N qual scope f cd A outer s H E).A.frames=some (anr qual scope s.heap.objs.size f cd::outer):=I.ok.frames
 have hF:s1.heap.FunFrames base (anr qual scope s.heap.objs.size f cd::outer):=I.stack
 have nX:∀ b o,s.heap.get? b=some o->b≠s.heap.objs.size:=fun b o e=>alA (alb e)
 have iZ:∀ b o,s.heap.get? b=some o->b∉bf outer->b∉bf (anr qual scope s.heap.objs.size f cd::outer):=fun b o e hb z=>by
  rcases LA rfl z with z|z
  ·exact nX b o e z
  ·exact hb z
 have UW:∀ b,b∈bf outer->b∈bf (anr qual scope s.heap.objs.size f cd::outer):=fun b hb=>by
  unfold bf;rw[amx];exact alT _ hb
 have ub:Un (bf outer) [] H H1 s.heap s1.heap:=I.base
 have LB:Un (bf (anr qual scope s.heap.objs.size f cd::outer)) [] H1 H' s1.heap s2.heap:=un
 have LC:∀ b o,s1.heap.get? b=some o->H1 b=none->b∉bf (anr qual scope s.heap.objs.size f cd::outer)->B.get? b=some o:=kb
 have br:∀ b o,s1.heap.get? b=some o->b∉bf (anr qual scope s.heap.objs.size f cd::outer)->∃ o',B.get? b=some o':=tb
 have UX:∀ b∈bf (anr qual scope s.heap.objs.size f cd::outer),H1 b=none:=I.rK
 refine wpAny_leaves_onW zv rfl fl fun h' LD up=>?_
 have stays:=LD.1
 have sm:∀ b∈bf (anr qual scope s.heap.objs.size f cd::outer),∀ o,s1.heap.get? b=some o->∃ sl,h'.get? b=some { o with slots:=sl }:=fun b hb o q=>by
  obtain⟨_,o',cK,hnf⟩:=hF.mem hb
  rw[q] at cK;cases cK
  obtain⟨sl,e1⟩:=LB.slot b o q (UX b hb) hb (by simp)
  obtain⟨eV,e2⟩:=up b _ e1 hnf
  exact⟨eV,e2⟩
 refine⟨x,cls,a0,H',B,rfl,os.trans I.os,bare,⟨fun b o q n hb dD=>?_,fun b o q n hb dD=>?_,fun b o q n dD=>?_,fun b o q dD=>?_,fun b xs q=>un.ff _ _ (ub.ff _ _ q),fun b o u q=>un.eG _ _ _ (ub.eG _ _ _ q),fun b ps q=>?_⟩,fun b o q n hb=>?_,fun b o q hb=>?_,ao,hx,?_,LD,hE⟩
 ·exact stays b o (LC b o (ub.keep b o q n hb dD) (ub.free b o q n dD) (iZ b o q hb))
 ·obtain⟨sl,e1⟩:=ub.slot b o q n hb dD
  obtain⟨eV,e2⟩:=sm b (UW b hb) _ e1
  exact⟨eV,e2⟩
 ·obtain⟨o',e1⟩:=ub.there b o q dD
  exact LB.free b o' e1 (ub.free b o q n dD) (by simp)
 ·obtain⟨o',e1⟩:=ub.there b o q dD
  by_cases hb:b∈bf (anr qual scope s.heap.objs.size f cd::outer)
  ·obtain⟨sl,e2⟩:=sm b hb o' e1
   exact⟨_,e2⟩
  ·obtain⟨o2,e2⟩:=br b o' e1 hb
   exact⟨o2,stays b o2 e2⟩
 ·obtain⟨m1,e1⟩:=ub.fg b ps q
  obtain⟨m2,e2⟩:=un.fg b _ e1
  exact⟨m1++m2,by rw[e2,arl]⟩
 ·exact LC b o (ub.keep b o q n hb (by simp)) (ub.free b o q n (by simp)) (iZ b o q hb)
 ·obtain⟨o',e1⟩:=ub.there b o q (by simp)
  exact br b o' e1 (iZ b o q hb)
 ·cases q:s.heap.get? x with
  | none=>rfl
  | some u =>
   obtain⟨o',z⟩:=ub.there x u q (by simp)
   rw[hn] at z;cases z
theorem je {x qual:Str} {st:anD} {f:ala} {fd:alB} {N ps:List Str} {k:Nat} {sp:Sp} (F:aT K x qual st f fd) (S:aU N ps (az st)) (len:∀ vs H Q E,sp vs H Q E->vs.length=ps.length)
 (rZ:∀ (aI:ak3) (A:alY) (outer:List Env) (s:ak7) (H:Hp) (vs:List V) (Q:VK) (E:XK),ck k (A.deeper (anr qual (az st) s.heap.objs.size f aI))->sp vs H Q E ->
   ∃ t,bw (fR (aM P w) P w K mg base N qual (az st) f aI A outer s H E) (aR st) t/\t { nx:=fun _ H'=>Q .non H',rt:=Q } (start N vs) H):aL P w K mg base (aM P w) (k+1) f fd ps sp:=by
 obtain⟨oc,od,kV,doc,pm,an,aI,ct,i7,rfl,lk,fi⟩:=F.ex
 refine KJ lk fi S len fun A outer s H vs Q E hr jP=>?_
 exact rZ aI A outer s H vs Q E hr jP
end
end Gz
namespace Gz
open PySem PySem.Spec PyProof.Rows L2
section
variable {X:Cx} {F:ak3->ak7->Prop} {pins pn:List (ala × Obj)} {σ:L2.St} {H:Hp} {s:ak7} {A':alY}
end
end Gz
namespace Gz
noncomputable def LF (a b:Int):Int:=((Nat.gcd a.natAbs b.natAbs:Nat):Int)
noncomputable def sg (t b:Int):Int:=if b<0 then -LF t b else LF t b
noncomputable def rt (t b:Int):Int:=t.fdiv (sg t b)
noncomputable def rb (t b:Int):Int:=b.fdiv (sg t b)
end Gz
namespace Gz
open PySem PySem.W PyProof.Rows
noncomputable def dg {α:Type} (lt:Nat->Nat->Bool) (n:Nat):KasT α->(α->Prop)->Prop
 | .ret a,P=>P a
 | .ask i j k,P=>i<n/\j<n/\dg lt n (k (lt i j)) P
section
variable {lt:Nat->Nat->Bool} {n:Nat}
theorem oB {α β:Type} {f:α->KasT β} {P:β->Prop}:∀ (t:KasT α),dg lt n t (fun a=>dg lt n (f a) P)->dg lt n (t.bind f) P
 | .ret _,h=>h
 | .ask _ _ k,h=>⟨h.1,h.2.1,oB (k _) h.2.2⟩
theorem LG {α:Type} {P P':α->Prop} (h:∀ a,P a->P' a):∀ (t:KasT α),dg lt n t P->dg lt n t P'
 | .ret _,q=>h _ q
 | .ask _ _ k,q=>⟨q.1,q.2.1,LG h (k _) q.2.2⟩
theorem zx {α:Type} {cmp:Nat->Nat->(Bool->ak7->Prop)->ak7->Prop} {Ok:ak7->Prop} (hc:∀ i j C s,i<n->j<n->Ok s->(∀ s',Ok s'->C (lt i j) s')->cmp i j C s) {P:α->Prop} {Q:α->ak7->Prop} (hQ:∀ a s,Ok s->P a->Q a s) :
 ∀ (t:KasT α) (s:ak7),Ok s->dg lt n t P->t.kasWp cmp Q s
 | .ret a,s,o,h=>hQ a s o h
 | .ask i j k,s,o,h=>hc i j _ s h.1 h.2.1 o fun s' o'=>zx hc hQ (k (lt i j)) s' o' h.2.2
structure Ord (lt:Nat->Nat->Bool):Prop where
 asym:∀ {a b},lt a b=true->lt b a=false
 tr:∀ {a b c},lt b a=false->lt c b=false->lt c a=false
theorem Ord.rfl' (O:Ord lt) (a:Nat):lt a a=false:=by
 cases h:lt a a with
 | false=>rfl
 | true=>rw[O.asym h] at h;cases h
noncomputable def dh (lt:Nat->Nat->Bool) (p:Array Nat) (k:Nat):Prop:=∀ i j,i<=j->j<k->lt (p.getD j 0) (p.getD i 0)=false
noncomputable def eJ (lt:Nat->Nat->Bool) (p:Array Nat) (k:Nat):Prop:=∀ i j,i<=j->j<k->lt (p.getD i 0) (p.getD j 0)=false
noncomputable def b6 (n:Nat) (p:Array Nat):Prop:=p.toList.Perm (al4 n)
theorem b6.size {p:Array Nat} (h:b6 n p):p.size=n:=by
 have:=h.length_eq
 simpa using this
theorem b6.below {p:Array Nat} (h:b6 n p) {i:Nat} (hi:i<n):p.getD i 0<n:=by
 have hs:=h.size
 have bM:i<p.size:=by lia
 have e:p.getD i 0=p[i]:=by simp[apW,bM]
 rw[e]
 have m:p[i]∈p.toList:=by simp
 simpa using h.mem_iff.mp m
theorem b6.of {p q:Array Nat} (h:b6 n p) (hq:q.Perm p):b6 n q:=(Array.perm_iff_toList_perm.mp hq).trans h
theorem dh.one (O:Ord lt) {p:Array Nat}:dh lt p 1:=fun i j gx hj=>by
 have:i=j:=by lia
 subst this;exact O.rfl' _
theorem eJ.one (O:Ord lt) {p:Array Nat}:eJ lt p 1:=fun i j gx hj=>by
 have:i=j:=by lia
 subst this;exact O.rfl' _
theorem dh.succ (O:Ord lt) {p:Array Nat} {k:Nat} (h:dh lt p k) (hk:1<=k) (hn:lt (p.getD k 0) (p.getD (k-1) 0)=false):dh lt p (k+1):=fun i j gx hj=>by
 by_cases e:j=k
 ·subst e
  by_cases ei:i=j
  ·subst ei;exact O.rfl' _
  ·exact O.tr (h i (j-1) (by lia) (by lia)) hn
 ·exact h i j gx (by lia)
theorem eJ.succ (O:Ord lt) {p:Array Nat} {k:Nat} (h:eJ lt p k) (hk:1<=k) (hn:lt (p.getD (k-1) 0) (p.getD k 0)=false):eJ lt p (k+1):=fun i j gx hj=>by
 by_cases e:j=k
 ·subst e
  by_cases ei:i=j
  ·subst ei;exact O.rfl' _
  ·exact O.tr hn (h i (j-1) (by lia) (by lia))
 ·exact h i j gx (by lia)
theorem jR {p:Array Nat} {i j:Nat} (hj:j<=p.size) (k:Nat):(kas_rev p i j).getD k 0=if i<=k/\k<j then p.getD (i+j-1-k) 0 else p.getD k 0:=by
 simp only[ape]
 unfold kas_rev
 rw[getElem?_mirror_all hj]
 split<;>rfl
theorem LH {p:Array Nat} {k l:Nat} (hk:k<p.size) (hl:l<=k) (i:Nat):(bubble p k (k-l)).getD i 0=if i=l then p.getD k 0 else if l<i/\i<=k then p.getD (i-1) 0 else p.getD i 0:=by
 simp only[ape]
 rw[getElem?_bubble hk _ (by lia)]
 have e:k-(k-l)=l:=by lia
 rw[e]
 split
 ·rfl
 ·split<;>rfl
theorem LI (O:Ord lt) {p:Array Nat} (hp:b6 n p) {P:Nat->Prop}:∀ (f a:Nat),1<=a->a+f<=n->dh lt p a->(∀ m,a<=m->m<=a+f->dh lt p m->P m)->dg lt n (kas_asc p f a) P
 | 0,a,h1,h2,hs,q=>q a (alm _) (by lia) hs
 | f+1,a,h1,h2,hs,q=>by
  refine⟨hp.below (by lia),hp.below (by lia),?_⟩
  cases c:lt (p.getD a 0) (p.getD (a-1) 0) with
  | true =>
   simp only[↓reduceIte]
   exact q a (alm _) (by lia) hs
  | false =>
   simp only[alw,↓reduceIte]
   exact LI O hp f (a+1) (by lia) (by lia) (hs.succ O h1 c) fun m m1 m2=>q m (by lia) (by lia)
theorem eJ.rev {p:Array Nat} {k i:Nat} (h:eJ lt p k) (hk:k<=p.size) (hi:i<=k) (he:∀ j,i<=j->j<k->lt (p.getD (k-1) 0) (p.getD j 0)=false) (O:Ord lt):eJ lt (kas_rev p i k) k:=fun a b eK hb=>by
 rw[jR hk,jR hk]
 have eqv:∀ x y,i<=x->x<k->i<=y->y<k->lt (p.getD x 0) (p.getD y 0)=false:=fun x y x1 x2 y1 y2=>O.tr (he y y1 y2) (h x (k-1) (by lia) (by lia))
 split
 ·split
  ·exact eqv _ _ (by lia) (by lia) (by lia) (by lia)
  ·exfalso;lia
 ·split
  ·exact h _ _ (by lia) (by lia)
  ·exact h _ _ eK hb
theorem vL (O:Ord lt) {P:Array Nat × Nat × Nat->Prop}:∀ (f:Nat) (p:Array Nat) (k q:Nat),b6 n p->1<=k->k+f<=n->q+1<=k->eJ lt p k->(∀ j,k-(q+1)<=j->j<k->lt (p.getD (k-1) 0) (p.getD j 0)=false) ->
 (∀ p' k' q',b6 n p'->k<=k'->k'<=k+f->q' + 1<=k'->eJ lt p' k'->(∀ j,k' - (q' + 1)<=j->j<k'->lt (p'.getD (k' - 1) 0) (p'.getD j 0)=false)->P (p',k',q'))->dg lt n (kas_desc f p k q) P
 | 0,p,k,q,hp,h1,h2,h3,hd,he,fin=>fin p k q hp (alm _) (by lia) h3 hd he
 | f+1,p,k,q,hp,h1,h2,h3,hd,he,fin=>by
  have hs:=hp.size
  have one:∀ (p':Array Nat),∀ j,(k+1)-(0+1)<=j->j<k+1->lt (p'.getD (k+1-1) 0) (p'.getD j 0)=false:=fun p' j j1 j2=>by
   have:j=k:=by lia
   subst this;exact O.rfl' _
  refine⟨hp.below (by lia),hp.below (by lia),?_⟩
  cases c:lt (p.getD k 0) (p.getD (k-1) 0) with
  | true =>
   simp only[↓reduceIte]
   have c':=O.asym c
   by_cases hq:q > 0
   ·rw[if_pos hq]
    have cn:b6 n (kas_rev p (k-(q+1)) k):=hp.of (arc _ _ _ _)
    have gM:eJ lt (kas_rev p (k-(q+1)) k) k:=hd.rev (by lia) (by lia) he O
    refine vL O f _ (k+1) 0 cn (by lia) (by lia) (by lia) (gM.succ O h1 ?_) (one _) fun p2 k2 q2 a1 a2 a3 a4 a5 a6=>fin p2 k2 q2 a1 (by lia) (by lia) a4 a5 a6
    rw[jR (by lia),jR (by lia),if_pos (by lia),if_neg (by lia)]
    have e1:k-(q+1)+k-1-(k-1)=k-(q+1):=by lia
    rw[e1]
    exact O.tr c' (hd _ (k-1) (by lia) (by lia))
   ·rw[if_neg hq]
    exact vL O f p (k+1) 0 hp (by lia) (by lia) (by lia) (hd.succ O h1 c') (one _) fun p2 k2 q2 a1 a2 a3 a4 a5 a6=>fin p2 k2 q2 a1 (by lia) (by lia) a4 a5 a6
  | false =>
   simp only[alw,↓reduceIte]
   refine⟨hp.below (by lia),hp.below (by lia),?_⟩
   cases d:lt (p.getD (k-1) 0) (p.getD k 0) with
   | true =>
    simp only[↓reduceIte]
    exact fin p k q hp (alm _) (by lia) h3 hd he
   | false =>
    simp only[alw,↓reduceIte]
    refine vL O f p (k+1) (q+1) hp (by lia) (by lia) (by lia) (hd.succ O h1 d) (fun j j1 j2=>?_) fun p2 k2 q2 a1 a2 a3 a4 a5 a6=>fin p2 k2 q2 a1 (by lia) (by lia) a4 a5 a6
    have ek:k+1-1=k:=by lia
    rw[ek]
    by_cases ej:j=k
    ·subst ej;exact O.rfl' _
    ·exact O.tr (he j (by lia) (by lia)) c
theorem eJ.whole {p:Array Nat} {k:Nat} (h:eJ lt p k) (hk:k<=p.size):dh lt (kas_rev p 0 k) k:=fun a b eK hb=>by
 rw[jR hk,jR hk,if_pos (by lia),if_pos (by lia)]
 exact h _ _ (by lia) (by lia)
theorem LJ (O:Ord lt) {P:Nat × Array Nat->Prop} {p:Array Nat} {k:Nat} (hp:b6 n p) (h1:1<=k) (h2:k<=n) (hd:eJ lt p k) (fin:∀ m p',b6 n p'->1<=m->m<=n->dh lt p' m->P (m,p')):dg lt n (kas_tail3 k n p) P:=by
 have cn:b6 n (kas_rev p 0 k):=hp.of (arc _ _ _ _)
 have hs:=hp.size
 unfold kas_tail3
 refine oB _ (LI O cn (n-k) k h1 (by lia) (hd.whole (by lia)) fun m m1 m2 ms=>?_)
 exact fin m _ cn (by lia) (by lia) ms
theorem LK (O:Ord lt) {P:Nat × Array Nat->Prop} {p:Array Nat} {k:Nat} (hp:b6 n p) (h1:1<=k) (h2:k+1<=n) (hd:eJ lt p (k+1)) (fin:∀ m p',b6 n p'->1<=m->m<=n->dh lt p' m->P (m,p')):dg lt n (kas_descPart k n p) P:=by
 unfold kas_descPart
 refine oB _ (vL O (n-(k+1)) p (k+1) 0 hp (by lia) (by lia) (by lia) hd (fun j j1 j2=>?_) fun p2 k2 q2 a1 a2 a3 a4 a5 a6=>?_)
 ·have:j=k:=by lia
  subst this;exact O.rfl' _
 ·have hs:=a1.size
  dsimp only
  by_cases hq:q2 > 0
  ·rw[if_pos hq]
   exact LJ O (a1.of (arc _ _ _ _)) (by lia) (by lia) (a5.rev (by lia) (by lia) a6 O) fin
  ·rw[if_neg hq]
   exact LJ O a1 (by lia) (by lia) a5 fin
theorem UY (O:Ord lt) {P:Nat × Array Nat->Prop} {p:Array Nat} (hp:b6 n p) (hn:1<=n) (fin:∀ m p',b6 n p'->1<=m->m<=n->dh lt p' m->P (m,p')):dg lt n (kas_count n p) P:=by
 have hs:=hp.size
 unfold kas_count
 have key:dg lt n (kas_asc p (n-1) 1) (fun m=>1<=m/\m<=n/\dh lt p m/\(m<n->lt (p.getD m 0) (p.getD (m-1) 0)=true)):=by
  have gen:∀ (f a:Nat),1<=a->a+f=n->dh lt p a->dg lt n (kas_asc p f a) (fun m=>1<=m/\m<=n/\dh lt p m/\(m<n->lt (p.getD m 0) (p.getD (m-1) 0)=true)):=by
   intro f
   induction f with
   | zero=>intro a h1 h2 hs;exact⟨h1,by lia,hs,fun z=>absurd z (by lia)⟩
   | succ f ih =>
    intro a h1 h2 hs
    refine⟨hp.below (by lia),hp.below (by lia),?_⟩
    cases c:lt (p.getD a 0) (p.getD (a-1) 0) with
    | true =>
     simp only[↓reduceIte]
     exact⟨h1,by lia,hs,fun _=>c⟩
    | false =>
     simp only[alw,↓reduceIte]
     exact ih (a+1) (by lia) (by lia) (hs.succ O h1 c)
  exact gen (n-1) 1 (alm _) (by lia) (dh.one O)
 refine oB _ (LG (fun m hm=>?_) _ key)
 obtain⟨m1,m2,ms,mc⟩:=hm
 by_cases e:(m == n)=true
 ·rw[if_pos e]
  exact fin m p hp m1 m2 ms
 ·rw[if_neg e]
  have UZ:m<n:=by
   have:m≠n:=by simpa using e
   lia
  have mc:=mc UZ
  by_cases h2:m > 1
  ·rw[if_pos h2]
   refine⟨hp.below (by lia),hp.below (by lia),?_⟩
   cases c:lt (p.getD 0 0) (p.getD (m-1) 0) with
   | true =>
    simp only[↓reduceIte]
    exact fin m p hp m1 m2 ms
   | false =>
    simp only[alw,↓reduceIte]
    have eqv:∀ x y,x<m->y<m->lt (p.getD x 0) (p.getD y 0)=false:=fun x y hx hy =>
     O.tr (ms y (m-1) (by lia) (by lia)) (O.tr c (ms 0 x (by lia) hx))
    have cn:b6 n (kas_rev p 0 m):=hp.of (arc _ _ _ _)
    refine LK O cn m1 (by lia) (fun i j gx hj=>?_) fin
    rw[jR (by lia),jR (by lia)]
    by_cases ej:j=m
    ·subst ej
     rw[if_neg (show ¬ (0<=j/\j<j) by lia)]
     split
     ·exact O.tr (O.asym mc) (eqv _ _ (by lia) (by lia))
     ·have:i=j:=by lia
      subst this;exact O.rfl' _
    ·rw[if_pos (by lia),if_pos (by lia)]
     exact eqv _ _ (by lia) (by lia)
  ·rw[if_neg h2]
   have e1:m=1:=by lia
   subst e1
   exact LK O hp (alm _) (by lia) ((eJ.one O).succ O (alm _) (O.asym mc)) fin
theorem zy {p:Array Nat} {k:Nat} {P:Nat->Prop} (O:Ord lt) (hp:b6 n p) (hk:k<n) (hs:dh lt p k) (fin:∀ m,m<=k->(∀ i,i<m->lt (p.getD k 0) (p.getD i 0)=false)->(∀ i,m<=i->i<k->lt (p.getD i 0) (p.getD k 0)=false)->P m) :
 ∀ (f l r:Nat),r-l<=f->l<=r->r<=k->(∀ i,i<l->lt (p.getD k 0) (p.getD i 0)=false)->(∀ i,r<=i->i<k->lt (p.getD i 0) (p.getD k 0)=false)->dg lt n (kas_place p k f l r) P
 | 0,l,r,h1,h2,h3,a,b=>by
  have:l=r:=by lia
  subst this
  exact fin l h3 a b
 | f+1,l,r,h1,h2,h3,a,b=>by
  unfold kas_place
  by_cases hlr:l ≥ r
  ·rw[if_pos hlr]
   have:l=r:=by lia
   subst this
   exact fin l h3 a b
  ·rw[if_neg hlr]
   refine⟨hp.below hk,hp.below (by lia),?_⟩
   cases c:lt (p.getD k 0) (p.getD ((l+r) / 2) 0) with
   | true =>
    simp only[↓reduceIte]
    refine zy O hp hk hs fin f l ((l+r) / 2) (by lia) (by lia) (by lia) a fun i i1 i2=>?_
    exact O.tr (O.asym c) (hs _ _ i1 i2)
   | false =>
    simp only[alw,↓reduceIte]
    refine zy O hp hk hs fin f ((l+r) / 2+1) r (by lia) (by lia) h3 (fun i i1=>?_) b
    exact O.tr (hs i ((l+r) / 2) (by lia) (by lia)) c
theorem LL (O:Ord lt) {P:Array Nat->Prop} (fin:∀ p,b6 n p->dh lt p n->P p):∀ (f:Nat) (p:Array Nat) (k:Nat),k+f=n->b6 n p->dh lt p k->dg lt n (kas_bin f p k) P
 | 0,p,k,h,hp,hs=>fin p hp (by rw[<- h];exact hs)
 | f+1,p,k,h,hp,hs=>by
  have sz:=hp.size
  unfold kas_bin
  refine oB _ (zy O hp (by lia) hs (fun m m1 ma mb=>?_) k 0 k (by lia) (by lia) (alm _) (fun _ z=>absurd z (by lia)) fun _ z1 z2=>absurd z2 (by lia))
  refine LL O fin f _ (k+1) (by lia) (hp.of (bubble_perm _ _ _)) fun i j gx hj=>?_
  rw[LH (by lia) m1,LH (by lia) m1]
  by_cases ei:i=m
  ·rw[if_pos ei]
   by_cases ej:j=m
   ·rw[if_pos ej];exact O.rfl' _
   ·rw[if_neg ej,if_pos (by lia)]
    exact mb _ (by lia) (by lia)
  ·rw[if_neg ei]
   by_cases ej:j=m
   ·rw[if_pos ej,if_neg (by lia)]
    exact ma _ (by lia)
   ·rw[if_neg ej]
    split
    ·split
     ·exact hs _ _ (by lia) (by lia)
     ·exact hs _ _ (by lia) (by lia)
    ·split
     ·exfalso;lia
     ·exact hs _ _ (by lia) (by lia)
theorem zA (O:Ord lt) (hn:1<=n):dg lt n (kas_sort n) (fun p=>b6 n p/\dh lt p n):=by
 unfold kas_sort
 have h0:b6 n (am0 (al4 n)):=by unfold b6;simp
 refine oB _ (UY O h0 hn fun m p hp m1 m2 ms=>?_)
 dsimp only
 by_cases h:m<n
 ·rw[if_pos h]
  have e:max m 1=m:=by lia
  rw[e]
  exact LL O (fun p hp hs=>⟨hp,hs⟩) (n-m) p m (by lia) hp ms
 ·rw[if_neg h]
  have e:m=n:=by lia
  subst e
  exact⟨hp,ms⟩
noncomputable def vM {α:Type} (lt:Nat->Nat->Bool):KasT α->α
 | .ret a=>a
 | .ask i j k=>vM lt (k (lt i j))
theorem LM {α:Type} {P:α->Prop}:∀ (t:KasT α),dg lt n t P->P (vM lt t)
 | .ret _,h=>h
 | .ask i j k,h=>LM (k (lt i j)) h.2.2
theorem zB {α:Type} {P:α->Prop}:∀ (t:KasT α),dg lt n t P->dg lt n t (fun a=>a=vM lt t)
 | .ret _,_=>rfl
 | .ask i j k,h=>⟨h.1,h.2.1,zB (k (lt i j)) h.2.2⟩
noncomputable def bJ (lt:Nat->Nat->Bool) (n:Nat):Array Nat:=if n<2 then am0 (al4 n) else vM lt (kas_sort n)
theorem kU (O:Ord lt):b6 n (bJ lt n)/\dh lt (bJ lt n) n:=by
 unfold bJ
 split
 ·rename_i h
  refine⟨by unfold b6;simp,fun i j gx hj=>?_⟩
  have:i=j:=by lia
  subst this;exact O.rfl' _
 ·rename_i h
  exact LM _ (zA O (by lia))
end
end Gz
namespace Gz
open PySem PySem.Spec PyProof.Rows L2
local macro_rules | `(tactic| walk_at "om") => `(tactic| ((try simp only [PySem.Addr] at *); lia))
theorem LN {prog:alr} {w:alS} {A:alY} {E:ak3->ak7->Prop} {s:ak7} {id:String} {b:an0} {args:List ak3} {kw:List (Str × ak3)} {Q:ak3->ak7->Prop} (hk:builtinKind id=none) (hp:plainId id=true)
 (hb:asZ table id=some b) (ha:aq3 id ⟨args,kw⟩)
 (hc:alu (model prog w) A.in1 (b ⟨args,kw⟩) (fun fin s'=>match fin with
   | .done f=>(match (Except.ok f:apQ) with|.ok (.ret v)=>Q v s'|.ok _=>False|.error e=>E e s')
   | .again c'=>c'.quiet=true/\anR (model prog w) A c' (fun r s'=>match r with|.ok (.ret v)=>Q v s'|.ok _=>False|.error e=>E e s') s') E s) :
 alu (model prog w) A (call (.builtin id) args kw) Q E s:=by
 refine arE (aqV hp hb ?_)
 simp only[ar0,hk]
 cases hsig:Manifest.signature? id with
 | none=>exact ak6 hc
 | some sig =>
  have sk:Bind.checkArgs id sig ⟨args,kw⟩=pure ():=by simpa only [aq3,hsig] using ha
  simp only[sk]
  exact ak6 hc
theorem U0 {prog:alr} {w:alS} {A:alY} {R:apQ->ak7->Prop} {I S:ala} {fp wr:List ala} {n:Nat} {P:Nat->ak3->Prop} {St:Nat->amH->Prop} {bt:Nat->Nat->Bool} {kw:List (Str × ak3)}
 (W:Walks prog w A.in1 I fp wr n P St) (jf:CmpOf prog w A.in1 .Gt P bt) (hS:S∉fp):∀ (k j:Nat) (s:ak7) (vb:ak3) (c:Nat),k+(j+1)=n->St (j+1) s.heap->P (anm bt j) vb ->
  s.heap.get? S=some { cls:=.type "list",dict:=none,data:=.seq #[vb,vb] c,slots:=#[] } ->
  (∀ v h' tk,P (anm bt (n-1)) v->(∀ b o,b∉wr->b≠S->s.heap.get? b=some o->h'.get? b=some o)->R (.ok (.ret v)) { s with heap:=h',toks:=tk }) ->
  anR (model prog w) A (.builtin "max.loop" ⟨[.ref I,.none,.ref S],kw⟩) R s:=by
 have nS:S∉wr:=fun z=>hS (W.sub _ z)
 have nm:(toString "max" ++ toString ".loop" : String) = "max.loop" := by decide
 intro k
 induction k with
 | zero =>
  intro j s vb c e st pb oS fin
  have e':j+1=n:=by walk_at "om"
  refine alZ anS ?_
  rw[alL amu _]
  show alu _ A.in1 (aoe (.ref S) >>= _) _ _ s
  refine ak1 (amJ oS rfl ?_)
  show alu _ A.in1 (tryCatch (anu (.ref I)) _ >>= _) _ _ s
  refine ak1 (ams (W.done s _ _ (e' ▸ st) fun h1 tk kp=>?_))
  have cv:=kp S _ nS oS
  show alu _ A.in1 (aov S (fun _=>#[]) >>= _) _ _ _
  refine ak1 ?_
  refine amq cv rfl (ak1 (amP (ak6 ?_)))
  exact fin vb _ tk (by rw[<- e'];exact pb) fun b o hw hb q=>(alg _ _ (al5 hb)).trans (kp b o hw q)
 | succ k ih =>
  intro j s vb c e st pb oS fin
  have lt:j+1<n:=by walk_at "om"
  refine alZ anS ?_
  rw[alL amu _]
  show alu _ A.in1 (aoe (.ref S) >>= _) _ _ s
  refine ak1 (amJ oS rfl ?_)
  show alu _ A.in1 (tryCatch (anu (.ref I)) _ >>= _) _ _ s
  refine ak1 (ams (W.item (j+1) s _ _ lt st fun v h1 tk pv fo kp=>?_))
  have cv:=kp S _ nS oS
  show alu _ A.in1 (tryCatch (holding [v,v] (aoM .Gt v vb >>= _)) _ >>= _) _ _ _
  refine ak1 (ams (al6 (ak1 (jf (j+1) (anm bt j) v vb _ _ _ pv pb ?_))))
  refine ak1 (al6 (amh ?_))
  refine ak1 (amP (ak6 ?_))
  cases hb:bt (j+1) (anm bt j) with
  | true =>
   simp only[if_true]
   refine ak1 ?_
   refine amq cv rfl (ak1 (amP ?_))
   rw[nm]
   refine ak6 ⟨aml amu _,ih (j+1) _ v _ (by walk_at "om") (W.frame _ _ _ fo fun b hf o q=>?_) (by simp only[anm,hb,if_true];exact pv) (alO _ cv rfl) fun v2 h2 gy p2 k2=>?_⟩
   ·exact (alg _ _ (fun z:S=b=>hS (by rw[z];exact hf))).trans q
   ·exact fin v2 h2 gy p2 fun b o hw dM q=>k2 b o hw dM ((alg _ _ (al5 dM)).trans (kp b o hw q))
  | false =>
   simp only[alw,if_false]
   refine ak1 (amP ?_)
   rw[nm]
   refine ak6 ⟨aml amu _,ih (j+1) _ vb c (by walk_at "om") fo (by simp only[anm,hb,alw,if_false];exact pb) cv fun v2 h2 gy p2 k2=>?_⟩
   exact fin v2 h2 gy p2 fun b o hw dM q=>k2 b o hw dM (kp b o hw q)
theorem U1 (a d:ak3):aq3 "max" ⟨[a],[("default",d)]⟩:=by unfold aq3;kernel_rfl
theorem U2 {prog:alr} {w:alS} {A:alY} {E:ak3->ak7->Prop} {s:ak7} {l:ala} {xs:Array (Int × Tok)} {d:ak3} {Q:ak3->ak7->Prop} (hh:A.handled=none) (hl:s.heap.IsList l (amB xs))
 (h0:xs.size=0->∀ h' tk,(∀ b o,s.heap.get? b=some o->h'.get? b=some o)->Q d { s with heap:=h',toks:=tk })
 (h1:0<xs.size->∀ v h' tk,(amB xs)[anm (fun i j=>decide (aql xs i > aql xs j)) (xs.size-1)]?=some v->(∀ b o,s.heap.get? b=some o->h'.get? b=some o)->Q v { s with heap:=h',toks:=tk }) :
 alu (model prog w) A (call (.builtin "max") [.ref l] [("default",d)]) Q E s:=by
 have nm:(toString "max" ++ toString ".loop" : String) = "max.loop" := by decide
 refine LN PySem.F.kind_max PySem.F.plain_max PySem.F.entry_max (U1 _ _) ?_
 show alu _ A.in1 (amz "max" ["key","default"] 0 ⟨[],[("default",d)]⟩ >>= _) _ _ s
 refine ak1 (apf (show amz "max" ["key","default"] 0 ⟨[],[("default",d)]⟩=pure [none,some d] from rfl) ?_)
 refine ak1 (ak6 ?_)
 refine ak1 (iter_intList hl fun s2 e2 st eZ zC=>?_)
 subst e2
 refine ak1 (amd ?_)
 have W:=Walks.list (prog:=prog) (w:=w) (A:=A.in1) hh s.heap.objs.size l zC (amB xs)
 generalize eP:(s.heap.push { cls:=.type "list_iterator",data:=.fields #[.ref l,.int 0 0] })=P2 at st eZ ⊢
 have iA:P2.objs.size∉[s.heap.objs.size,l]:=fun z=>amL _ (eZ _ z)
 have up:∀ b o,s.heap.get? b=some o->b≠P2.objs.size/\b∉[s.heap.objs.size]/\(P2.push { cls:=.type "list",dict:=none,data:=.seq ([]:List ak3).toArray }).get? b=some o:=fun b o q=>by
  have lt:=alb q
  have q2:P2.get? b=some o:=by rw[<- eP];exact ak5 _ q
  refine⟨alA (alb q2),fun z=>?_,ak5 _ q2⟩
  have:b=s.heap.objs.size:=by simpa using z
  walk_at "om"
 rw[nm]
 refine ak6 ⟨aml amu _,?_⟩
 have oS:(P2.push { cls:=.type "list",dict:=none,data:=.seq ([]:List ak3).toArray }).get? P2.objs.size=some { cls:=.type "list",dict:=none,data:=.seq #[] 0,slots:=#[] }:=aln _ rfl
 have b0:=W.frame 0 P2 (P2.push { cls:=.type "list",dict:=none,data:=.seq ([]:List ak3).toArray }) st fun b _ o q=>ak5 _ q
 have nS:P2.objs.size∉[s.heap.objs.size]:=fun z=>iA (by simp at z;simp[z])
 by_cases hz:xs.size=0
 ·have so:(P2.push { cls:=.type "list",dict:=none,data:=.seq ([]:List ak3).toArray }).IsListIter s.heap.objs.size l (amB xs).size/\(P2.push { cls:=.type "list",dict:=none,data:=.seq ([]:List ak3).toArray }).IsList l (amB xs):=by
   have:(amB xs).size=0:=by simpa [amB] using hz
   rw[this];exact b0
  refine alZ anS ?_
  rw[alL amu _]
  show alu _ A.in1 (aoe (.ref P2.objs.size) >>= _) _ _ _
  refine ak1 (amJ oS rfl ?_)
  show alu _ A.in1 (tryCatch (anu (.ref s.heap.objs.size)) _ >>= _) _ _ _
  refine ak1 (ams (W.done _ _ _ so fun h2 tk kp=>?_))
  refine ak1 (an8 (ak6 ?_))
  exact h0 hz h2 tk fun b o q=>kp b o (up b o q).2.1 (up b o q).2.2
 ·have hp:0<xs.size:=by walk_at "om"
  have hn:0<(amB xs).size:=by simpa [amB] using hp
  refine alZ anS ?_
  rw[alL amu _]
  show alu _ A.in1 (aoe (.ref P2.objs.size) >>= _) _ _ _
  refine ak1 (amJ oS rfl ?_)
  show alu _ A.in1 (tryCatch (anu (.ref s.heap.objs.size)) _ >>= _) _ _ _
  refine ak1 (ams (W.item 0 _ _ _ hn b0 fun v h2 tk pv fo kp=>?_))
  have cv:=kp _ _ nS oS
  show alu _ A.in1 (aov P2.objs.size (fun _=>#[v,v]) >>= _) _ _ _
  refine ak1 ?_
  refine amq cv rfl ?_
  rw[nm]
  refine ak6 ⟨aml amu _,U0 W (CmpOf.ints_gt (aql xs) (fun _ _=>ard)) iA ((amB xs).size-1) 0 _ v _ (by walk_at "om") (W.frame _ _ _ fo fun b hf o q=>?_) pv (alO _ cv rfl) fun v2 h3 sq p3 k3=>?_⟩
  ·exact (alg _ _ (fun z:P2.objs.size=b=>iA (by rw[z];exact hf))).trans q
  ·refine h1 hp v2 h3 sq (by simpa [amB] using p3) fun b o q=>?_
   exact k3 b o (up b o q).2.1 (up b o q).1 ((alg _ _ (al5 (up b o q).1)).trans (kp b o (up b o q).2.1 (up b o q).2.2))
theorem U3 {prog:alr} {w:alS} {A:alY} {R:apQ->ak7->Prop} {I S:ala} {fp wr:List ala} {n:Nat} {P:Nat->ak3->Prop} {St:Nat->amH->Prop} {bt:Nat->Nat->Bool} {kw:List (Str × ak3)}
 (W:Walks prog w A.in1 I fp wr n P St) (jf:CmpOf prog w A.in1 .Lt P bt) (hS:S∉fp):∀ (k j:Nat) (s:ak7) (vb:ak3) (c:Nat),k+(j+1)=n->St (j+1) s.heap->P (anm bt j) vb ->
  s.heap.get? S=some { cls:=.type "list",dict:=none,data:=.seq #[vb,vb] c,slots:=#[] } ->
  (∀ v h' tk,P (anm bt (n-1)) v->(∀ b o,b∉wr->b≠S->s.heap.get? b=some o->h'.get? b=some o)->R (.ok (.ret v)) { s with heap:=h',toks:=tk }) ->
  anR (model prog w) A (.builtin "min.loop" ⟨[.ref I,.none,.ref S],kw⟩) R s:=by
 have nS:S∉wr:=fun z=>hS (W.sub _ z)
 have nm:(toString "min" ++ toString ".loop" : String) = "min.loop" := by decide
 intro k
 induction k with
 | zero =>
  intro j s vb c e st pb oS fin
  have e':j+1=n:=by walk_at "om"
  refine alZ amG ?_
  rw[alL alQ _]
  show alu _ A.in1 (aoe (.ref S) >>= _) _ _ s
  refine ak1 (amJ oS rfl ?_)
  show alu _ A.in1 (tryCatch (anu (.ref I)) _ >>= _) _ _ s
  refine ak1 (ams (W.done s _ _ (e' ▸ st) fun h1 tk kp=>?_))
  have cv:=kp S _ nS oS
  show alu _ A.in1 (aov S (fun _=>#[]) >>= _) _ _ _
  refine ak1 ?_
  refine amq cv rfl (ak1 (amP (ak6 ?_)))
  exact fin vb _ tk (by rw[<- e'];exact pb) fun b o hw hb q=>(alg _ _ (al5 hb)).trans (kp b o hw q)
 | succ k ih =>
  intro j s vb c e st pb oS fin
  have lt:j+1<n:=by walk_at "om"
  refine alZ amG ?_
  rw[alL alQ _]
  show alu _ A.in1 (aoe (.ref S) >>= _) _ _ s
  refine ak1 (amJ oS rfl ?_)
  show alu _ A.in1 (tryCatch (anu (.ref I)) _ >>= _) _ _ s
  refine ak1 (ams (W.item (j+1) s _ _ lt st fun v h1 tk pv fo kp=>?_))
  have cv:=kp S _ nS oS
  show alu _ A.in1 (tryCatch (holding [v,v] (aoM .Lt v vb >>= _)) _ >>= _) _ _ _
  refine ak1 (ams (al6 (ak1 (jf (j+1) (anm bt j) v vb _ _ _ pv pb ?_))))
  refine ak1 (al6 (amh ?_))
  refine ak1 (amP (ak6 ?_))
  cases hb:bt (j+1) (anm bt j) with
  | true =>
   simp only[if_true]
   refine ak1 ?_
   refine amq cv rfl (ak1 (amP ?_))
   rw[nm]
   refine ak6 ⟨aml alQ _,ih (j+1) _ v _ (by walk_at "om") (W.frame _ _ _ fo fun b hf o q=>?_) (by simp only[anm,hb,if_true];exact pv) (alO _ cv rfl) fun v2 h2 gy p2 k2=>?_⟩
   ·exact (alg _ _ (fun z:S=b=>hS (by rw[z];exact hf))).trans q
   ·exact fin v2 h2 gy p2 fun b o hw dM q=>k2 b o hw dM ((alg _ _ (al5 dM)).trans (kp b o hw q))
  | false =>
   simp only[alw,if_false]
   refine ak1 (amP ?_)
   rw[nm]
   refine ak6 ⟨aml alQ _,ih (j+1) _ vb c (by walk_at "om") fo (by simp only[anm,hb,alw,if_false];exact pb) cv fun v2 h2 gy p2 k2=>?_⟩
   exact fin v2 h2 gy p2 fun b o hw dM q=>k2 b o hw dM (kp b o hw q)
theorem U4 (a d:ak3):aq3 "min" ⟨[a],[("default",d)]⟩:=by unfold aq3;kernel_rfl
theorem U5 {prog:alr} {w:alS} {A:alY} {E:ak3->ak7->Prop} {s:ak7} {l:ala} {xs:Array (Int × Tok)} {d:ak3} {Q:ak3->ak7->Prop} (hh:A.handled=none) (hl:s.heap.IsList l (amB xs))
 (h0:xs.size=0->∀ h' tk,(∀ b o,s.heap.get? b=some o->h'.get? b=some o)->Q d { s with heap:=h',toks:=tk })
 (h1:0<xs.size->∀ v h' tk,(amB xs)[anm (fun i j=>decide (aql xs i<aql xs j)) (xs.size-1)]?=some v->(∀ b o,s.heap.get? b=some o->h'.get? b=some o)->Q v { s with heap:=h',toks:=tk }) :
 alu (model prog w) A (call (.builtin "min") [.ref l] [("default",d)]) Q E s:=by
 have nm:(toString "min" ++ toString ".loop" : String) = "min.loop" := by decide
 refine LN ar1 arJ arK (U4 _ _) ?_
 show alu _ A.in1 (amz "min" ["key","default"] 0 ⟨[],[("default",d)]⟩ >>= _) _ _ s
 refine ak1 (apf (show amz "min" ["key","default"] 0 ⟨[],[("default",d)]⟩=pure [none,some d] from rfl) ?_)
 refine ak1 (ak6 ?_)
 refine ak1 (iter_intList hl fun s2 e2 st eZ zC=>?_)
 subst e2
 refine ak1 (amd ?_)
 have W:=Walks.list (prog:=prog) (w:=w) (A:=A.in1) hh s.heap.objs.size l zC (amB xs)
 generalize eP:(s.heap.push { cls:=.type "list_iterator",data:=.fields #[.ref l,.int 0 0] })=P2 at st eZ ⊢
 have iA:P2.objs.size∉[s.heap.objs.size,l]:=fun z=>amL _ (eZ _ z)
 have up:∀ b o,s.heap.get? b=some o->b≠P2.objs.size/\b∉[s.heap.objs.size]/\(P2.push { cls:=.type "list",dict:=none,data:=.seq ([]:List ak3).toArray }).get? b=some o:=fun b o q=>by
  have lt:=alb q
  have q2:P2.get? b=some o:=by rw[<- eP];exact ak5 _ q
  refine⟨alA (alb q2),fun z=>?_,ak5 _ q2⟩
  have:b=s.heap.objs.size:=by simpa using z
  walk_at "om"
 rw[nm]
 refine ak6 ⟨aml alQ _,?_⟩
 have oS:(P2.push { cls:=.type "list",dict:=none,data:=.seq ([]:List ak3).toArray }).get? P2.objs.size=some { cls:=.type "list",dict:=none,data:=.seq #[] 0,slots:=#[] }:=aln _ rfl
 have b0:=W.frame 0 P2 (P2.push { cls:=.type "list",dict:=none,data:=.seq ([]:List ak3).toArray }) st fun b _ o q=>ak5 _ q
 have nS:P2.objs.size∉[s.heap.objs.size]:=fun z=>iA (by simp at z;simp[z])
 by_cases hz:xs.size=0
 ·have so:(P2.push { cls:=.type "list",dict:=none,data:=.seq ([]:List ak3).toArray }).IsListIter s.heap.objs.size l (amB xs).size/\(P2.push { cls:=.type "list",dict:=none,data:=.seq ([]:List ak3).toArray }).IsList l (amB xs):=by
   have:(amB xs).size=0:=by simpa [amB] using hz
   rw[this];exact b0
  refine alZ amG ?_
  rw[alL alQ _]
  show alu _ A.in1 (aoe (.ref P2.objs.size) >>= _) _ _ _
  refine ak1 (amJ oS rfl ?_)
  show alu _ A.in1 (tryCatch (anu (.ref s.heap.objs.size)) _ >>= _) _ _ _
  refine ak1 (ams (W.done _ _ _ so fun h2 tk kp=>?_))
  refine ak1 (an8 (ak6 ?_))
  exact h0 hz h2 tk fun b o q=>kp b o (up b o q).2.1 (up b o q).2.2
 ·have hp:0<xs.size:=by walk_at "om"
  have hn:0<(amB xs).size:=by simpa [amB] using hp
  refine alZ amG ?_
  rw[alL alQ _]
  show alu _ A.in1 (aoe (.ref P2.objs.size) >>= _) _ _ _
  refine ak1 (amJ oS rfl ?_)
  show alu _ A.in1 (tryCatch (anu (.ref s.heap.objs.size)) _ >>= _) _ _ _
  refine ak1 (ams (W.item 0 _ _ _ hn b0 fun v h2 tk pv fo kp=>?_))
  have cv:=kp _ _ nS oS
  show alu _ A.in1 (aov P2.objs.size (fun _=>#[v,v]) >>= _) _ _ _
  refine ak1 ?_
  refine amq cv rfl ?_
  rw[nm]
  refine ak6 ⟨aml alQ _,U3 W (CmpOf.ints_lt (aql xs) (fun _ _=>ard)) iA ((amB xs).size-1) 0 _ v _ (by walk_at "om") (W.frame _ _ _ fo fun b hf o q=>?_) pv (alO _ cv rfl) fun v2 h3 sq p3 k3=>?_⟩
  ·exact (alg _ _ (fun z:P2.objs.size=b=>iA (by rw[z];exact hf))).trans q
  ·refine h1 hp v2 h3 sq (by simpa [amB] using p3) fun b o q=>?_
   exact k3 b o (up b o q).2.1 (up b o q).1 ((alg _ _ (al5 (up b o q).1)).trans (kp b o (up b o q).2.1 (up b o q).2.2))
noncomputable def jS:List Int->Int
 | []=>0
 | x::r=>r.foldl (fun b y=>if y > b then y else b) x
noncomputable def jT:List Int->Int
 | []=>0
 | x::r=>r.foldl (fun b y=>if y<b then y else b) x
theorem LO:∀ (r:List Int) (b:Int),b<=r.foldl (fun b y=>if y > b then y else b) b/\(∀ y∈r,y<=r.foldl (fun b y=>if y > b then y else b) b)/\(r.foldl (fun b y=>if y > b then y else b) b=b∨r.foldl (fun b y=>if y > b then y else b) b∈r)
 | [],b=>⟨amF _,fun _ z=>(nomatch z),.inl rfl⟩
 | x::r,b=>by
  simp only[asv]
  obtain⟨h1,h2,h3⟩:=LO r (if x > b then x else b)
  refine⟨?_,fun y hy=>?_,?_⟩
  ·refine aqE ?_ h1;split<;>lia
  ·rcases alk.mp hy with rfl|hy
   ·refine aqE ?_ h1;split<;>lia
   ·exact h2 y hy
  ·rcases h3 with h3|h3
   ·rw[h3];split
    ·right;simp
    ·left;rfl
   ·right;exact alT _ h3
theorem LP:∀ (r:List Int) (b:Int),r.foldl (fun b y=>if y<b then y else b) b<=b/\(∀ y∈r,r.foldl (fun b y=>if y<b then y else b) b<=y)/\(r.foldl (fun b y=>if y<b then y else b) b=b∨r.foldl (fun b y=>if y<b then y else b) b∈r)
 | [],b=>⟨amF _,fun _ z=>(nomatch z),.inl rfl⟩
 | x::r,b=>by
  simp only[asv]
  obtain⟨h1,h2,h3⟩:=LP r (if x<b then x else b)
  refine⟨?_,fun y hy=>?_,?_⟩
  ·refine aqE h1 ?_;split<;>lia
  ·rcases alk.mp hy with rfl|hy
   ·refine aqE h1 ?_;split<;>lia
   ·exact h2 y hy
  ·rcases h3 with h3|h3
   ·rw[h3];split
    ·right;simp
    ·left;rfl
   ·right;exact alT _ h3
theorem U6 {ns:List Int} (h:ns≠[]):jS ns∈ns/\∀ y∈ns,y<=jS ns:=by
 cases ns with
 | nil=>exact absurd rfl h
 | cons x r =>
  obtain⟨h1,h2,h3⟩:=LO r x
  refine⟨?_,fun y hy=>?_⟩
  ·rcases h3 with h3|h3
   ·show r.foldl _ x∈_
    rw[h3];exact .head _
   ·exact .tail _ h3
  ·rcases alk.mp hy with rfl|hy
   ·exact h1
   ·exact h2 y hy
theorem U7 {ns:List Int} (h:ns≠[]):jT ns∈ns/\∀ y∈ns,jT ns<=y:=by
 cases ns with
 | nil=>exact absurd rfl h
 | cons x r =>
  obtain⟨h1,h2,h3⟩:=LP r x
  refine⟨?_,fun y hy=>?_⟩
  ·rcases h3 with h3|h3
   ·show r.foldl _ x∈_
    rw[h3];exact .head _
   ·exact .tail _ h3
  ·rcases alk.mp hy with rfl|hy
   ·exact h1
   ·exact h2 y hy
theorem zD:∀ {ns:List Int} {ai:List ak3},Vals (ns.map V.int) ai->∃ xs:Array (Int × Tok),ai.toArray=amB xs/\xs.toList.map (·.1)=ns
 | [],_,.nil=>⟨#[],by simp[amB],rfl⟩
 | n::ns,_,.cons (l₂:=ai) r t=>by
  obtain⟨xs,e1,e2⟩:=zD (ns:=ns) t
  obtain⟨tk,rfl⟩:=r
  refine⟨((n,tk)::xs.toList).toArray,?_,?_⟩
  ·have:ai=xs.toList.map (fun p=>Value.int p.1 p.2):=by
    have:=congrArg arS e1
    simpa [amB] using this
   simp[amB,this]
  ·simp[e2]
theorem LQ {xs:Array (Int × Tok)} {ns:List Int} (e:xs.toList.map (·.1)=ns) {i:Nat} (hi:i<xs.size):aql xs i∈ns/\aql xs i=ns.getD i 0:=by
 subst e
 unfold aql
 rw[alV hi]
 refine⟨alF.mpr ⟨xs[i],by simp,rfl⟩,?_⟩
 simp[hi]
theorem LR {xs:Array (Int × Tok)} {ns:List Int} (e:xs.toList.map (·.1)=ns) {y:Int} (hy:y∈ns):∃ i,i<xs.size/\aql xs i=y:=by
 subst e
 obtain⟨p,hp,rfl⟩:=alF.mp hy
 obtain⟨i,hi,e⟩:=List.mem_iff_getElem.mp hp
 refine⟨i,by simpa using hi,?_⟩
 unfold aql
 have bM:i<xs.size:=by simpa using hi
 rw[alV bM]
 have:xs[i]=p:=by simpa using e
 rw[this];rfl
theorem U8 {xs:Array (Int × Tok)} {ns:List Int} (e:xs.toList.map (·.1)=ns) (h:0<xs.size):aql xs (anm (fun i j=>decide (aql xs i > aql xs j)) (xs.size-1))=jS ns:=by
 obtain⟨h1,h2⟩:=argBest_gt (aql xs) (xs.size-1)
 have bK:ns≠[]:=by
  intro z;subst z
  have q:=congrArg List.length e
  rw[ak8,anJ,anZ] at q
  lia
 obtain⟨m1,m2⟩:=U6 bK
 refine aqF (m2 _ (LQ e (by lia)).1) ?_
 obtain⟨i,hi,ei⟩:=LR e m1
 rw[<- ei];exact h2 i (by lia)
theorem U9 {xs:Array (Int × Tok)} {ns:List Int} (e:xs.toList.map (·.1)=ns) (h:0<xs.size):aql xs (anm (fun i j=>decide (aql xs i<aql xs j)) (xs.size-1))=jT ns:=by
 obtain⟨h1,h2⟩:=argBest_lt (aql xs) (xs.size-1)
 have bK:ns≠[]:=by
  intro z;subst z
  have q:=congrArg List.length e
  rw[ak8,anJ,anZ] at q
  lia
 obtain⟨m1,m2⟩:=U7 bK
 refine aqF ?_ (m2 _ (LQ e (by lia)).1)
 obtain⟨i,hi,ei⟩:=LR e m1
 rw[<- ei];exact h2 i (by lia)
noncomputable def zE (R:V->Hp->Prop):List V->Hp->Prop
 | [x],H=>R x H
 | _,_=>False
theorem LS {R:V->Hp->Prop}:∀ {vs:List V} {H:Hp},zE R vs H->∃ x,vs=[x]/\R x H
 | [x],_,h=>⟨x,rfl,h⟩
section
variable {X:Cx} {e d:am7} {te td:TE} {p pos kp:Pos}
noncomputable def jU (f:List Int->Int):List Int->V->V
 | [],y=>y
 | n::ns,_=>.int (f (n::ns))
theorem LU {f:List Int->Int} {ns:List Int} {y:V} (h:ns≠[]):jU f ns y = .int (f ns):=by
 cases ns with
 | nil=>exact absurd rfl h
 | cons _ _=>rfl
noncomputable def zF (K:ak2) (f:List Int->Int) (te td:TE):TE:=fun σ H Q=>te σ H fun x H1=>td σ H1 fun y H2=>∃ a ns,x = .ref a/\ah K H2 a (ns.map V.int)/\Q (jU f ns y) H2
theorem Va (hc:X.calm=true) (hg:Gl X "max") (hm:X.mg "max" = none) (he:PE X e te) (hd:PE X d td)
 (hs:alM [e] X.env=(false,eval e X.env)::alM [] X.env:=by rfl) (hq:anQ pos (alM [e] X.env)=(false,eval e X.env)::anQ pos (alM [] X.env):=by rfl) :
 PE X (.Call (.Name "max" p) [e] [⟨some "default",d,kp⟩] pos) (zF X.K jS te td):=by
 intro pins s σ H Q I h
 refine amW (eW I hg hm Lv ?_ (by decide))
 refine callWith_kw (aC ((ae he ag hs) pos pins s σ H (zE fun x H1=>td σ H1 fun y H2=>∃ (a:ala) (ns:List Int),x = .ref a/\ah X.K H2 a (ns.map V.int)/\Q (jU jS ns y) H2) I h) fun us s1 ⟨vs,H1,I1,r,q⟩=>?_) hq (by rw[hs];rfl)
 ·obtain⟨x,rfl,q⟩:=LS q
  obtain⟨u,rfl,ru⟩:=vals1 r
  refine kws_cons (aC (hd pins s1 σ H1 _ I1 q) fun w s2 ⟨y,H2,I2,ry,a,ns,ex,hS,q1⟩=>kws_nil ?_)
  subst ex
  cases ru
  obtain⟨ai,rv,hp,_⟩:=I2.list hS
  obtain⟨xs,e1,e2⟩:=zD rv
  obtain⟨o,n,ho,bN,_,hdt⟩:=hp
  have hl:s2.heap.IsList a (amB xs):=⟨o,ho,bN,n,by rw[hdt,e1]⟩
  have len:xs.size=ns.length:=by rw[<- e2,ak8];simp
  show alu _ X.A (call (.builtin "max") [.ref a] [("default",w)]) _ _ s2
  refine U2 (I2.ok.hd hc) hl (fun hz h' tk hk=>⟨y,H2,I2.kept hk,ry,?_⟩) fun hp v h' tk hv hk=>⟨.int (jS ns),H2,I2.kept hk,?_,?_⟩
  ·have z:ns=[]:=amY.mp (by walk_at "om")
   rw[z] at q1
   exact q1
  ·obtain⟨t,rfl⟩:=ard hv
   exact⟨t,by rw[U8 e2 hp]⟩
  ·rw[LU (fun z=>by subst z;rw[anZ] at len;lia)] at q1
   exact q1
theorem Vb (hc:X.calm=true) (hg:Gl X "min") (hm:X.mg "min" = none) (he:PE X e te) (hd:PE X d td)
 (hs:alM [e] X.env=(false,eval e X.env)::alM [] X.env:=by rfl) (hq:anQ pos (alM [e] X.env)=(false,eval e X.env)::anQ pos (alM [] X.env):=by rfl) :
 PE X (.Call (.Name "min" p) [e] [⟨some "default",d,kp⟩] pos) (zF X.K jT te td):=by
 intro pins s σ H Q I h
 refine amW (eW I hg hm ou ?_ (by decide))
 refine callWith_kw (aC ((ae he ag hs) pos pins s σ H (zE fun x H1=>td σ H1 fun y H2=>∃ (a:ala) (ns:List Int),x = .ref a/\ah X.K H2 a (ns.map V.int)/\Q (jU jT ns y) H2) I h) fun us s1 ⟨vs,H1,I1,r,q⟩=>?_) hq (by rw[hs];rfl)
 ·obtain⟨x,rfl,q⟩:=LS q
  obtain⟨u,rfl,ru⟩:=vals1 r
  refine kws_cons (aC (hd pins s1 σ H1 _ I1 q) fun w s2 ⟨y,H2,I2,ry,a,ns,ex,hS,q1⟩=>kws_nil ?_)
  subst ex
  cases ru
  obtain⟨ai,rv,hp,_⟩:=I2.list hS
  obtain⟨xs,e1,e2⟩:=zD rv
  obtain⟨o,n,ho,bN,_,hdt⟩:=hp
  have hl:s2.heap.IsList a (amB xs):=⟨o,ho,bN,n,by rw[hdt,e1]⟩
  have len:xs.size=ns.length:=by rw[<- e2,ak8];simp
  show alu _ X.A (call (.builtin "min") [.ref a] [("default",w)]) _ _ s2
  refine U5 (I2.ok.hd hc) hl (fun hz h' tk hk=>⟨y,H2,I2.kept hk,ry,?_⟩) fun hp v h' tk hv hk=>⟨.int (jT ns),H2,I2.kept hk,?_,?_⟩
  ·have z:ns=[]:=amY.mp (by walk_at "om")
   rw[z] at q1
   exact q1
  ·obtain⟨t,rfl⟩:=ard hv
   exact⟨t,by rw[U9 e2 hp]⟩
  ·rw[LU (fun z=>by subst z;rw[anZ] at len;lia)] at q1
   exact q1
end
end Gz
namespace Gz
open PySem PySem.Spec PyProof.Rows L2
local macro_rules | `(tactic| walk_at "om") => `(tactic| ((try simp only [PySem.Addr] at *); lia))
theorem LV:∀ {a b:List Int},HT.lexLt a b=true->HT.lexLt b a=false
 | [],[],h=>by cases h
 | [],_::_,_=>rfl
 | _::_,[],h=>by cases h
 | x::a,y::b,h=>by
  rw[HT.kJ] at h ⊢
  by_cases e:x=y
  ·subst e
   rw[if_pos rfl] at h ⊢
   exact LV h
  ·rw[if_neg e] at h
   rw[if_neg (al5 e)]
   have:x<y:=by simpa using h
   simpa using (by walk_at "om" : ¬ y<x)
theorem LW:∀ {a b c:List Int},HT.lexLt b a=false->HT.lexLt c b=false->HT.lexLt c a=false
 | [],[],[],_,_=>rfl
 | [],[],_::_,_,_=>rfl
 | [],_::_,[],_,h=>by cases h
 | [],_::_,_::_,_,_=>rfl
 | _::_,[],_,h,_=>by cases h
 | _::_,_::_,[],_,h=>by cases h
 | x::a,y::b,z::c,h1,h2=>by
  rw[HT.kJ] at h1 h2 ⊢
  by_cases e1:y=x
  ·subst e1
   rw[if_pos rfl] at h1
   by_cases e2:z=y
   ·subst e2
    rw[if_pos rfl] at h2 ⊢
    exact LW h1 h2
   ·rw[if_neg e2] at h2 ⊢
    exact h2
  ·rw[if_neg e1] at h1
   have LX:¬ y<x:=by simpa using h1
   by_cases e2:z=y
   ·subst e2
    rw[if_neg e1];exact h1
   ·rw[if_neg e2] at h2
    have sr:¬ z<y:=by simpa using h2
    rw[if_neg (by walk_at "om")]
    simpa using (by walk_at "om" : ¬ z<x)
section
variable {prog:alr} {w:alS} {A:alY} {E:ak3->ak7->Prop} {s:ak7}
theorem Vc {a b:Int} {t u:Tok} {Q:Bool->ak7->Prop} (h:Q (a == b) s):alu (model prog w) A (eqBool (.int a t) (.int b u)) Q E s:=SeqAt.EqAt.int_int a t b u prog w E Q h
theorem Vd {b fin:Bool} {Q:Bool->ak7->Prop}:∀ {ns ms:List Int} {us ws:List ak3} {i:Nat},ap4 us ns->ap4 ws ms->fin=decide (ns.length<ms.length)->Q (HT.lexLt ns ms) s->PySem.W.KatLex prog w A b fin Q (us.zip ws) i s:=by
 intro ns
 induction ns with
 | nil =>
  intro ms us ws i r q e h
  cases r
  cases q with
  | nil=>subst e;exact h
  | cons=>subst e;exact h
 | cons n ns ih =>
  intro ms us ws i r q e h
  cases r with
  | cons _ t r =>
   cases q with
   | nil=>subst e;exact h
   | cons m t' q =>
    rw[List.zip_cons_cons]
    refine PySem.W.kat_cons (Vc (PySem.W.kat_go (fun hh=>PySem.W.kat_yes ?_) fun hh=>PySem.W.kat_no ?_))
    ·have e1:n=m:=by simpa using hh
     subst e1
     rw[HT.kJ,if_pos rfl] at h
     exact ih r q (by subst e;simp) h
    ·have e1:n≠m:=by simpa using hh
     rw[HT.kJ,if_neg e1] at h
     cases (b && i == 0) with
     | true=>exact oneLt_int h
     | false=>exact PySem.W.kat_one _ _ (lt_int h)
end
noncomputable def fU (K:ak2) (H:Hp):List V->List (List Int)->Prop
 | [],[]=>True
 | k::ks,n::ns=>(∃ p,k = .ref p/\aj K H p (n.map V.int)/\n≠[])/\fU K H ks ns
 | _,_=>False
theorem fU.len {K:ak2} {H:Hp}:∀ {ks:List V} {ns:List (List Int)},fU K H ks ns->ks.length=ns.length
 | [],[],_=>rfl
 | _::_,_::_,h=>by simp[fU.len h.2]
 | [],_::_,h=>h.elim
 | _::_,[],h=>h.elim
theorem fU.get {K:ak2} {H:Hp}:∀ {ks:List V} {ns:List (List Int)} {i:Nat} {k:V},fU K H ks ns->ks[i]?=some k->∃ p,k = .ref p/\aj K H p ((ns.getD i []).map V.int)
 | [],[],_,_,_,e=>by simp at e
 | k::_,n::_,0,_,h,e=>by
  simp at e;subst e
  obtain⟨⟨p,a,b,_⟩,_⟩:=h
  exact⟨p,a,b⟩
 | _::_,_::_,i+1,_,h,e=>by
  have:=fU.get (i:=i) h.2 (by simpa using e)
  simpa using this
 | [],_::_,_,_,h,_=>h.elim
 | _::_,[],_,_,h,_=>h.elim
section
variable {X:Cx} {pins:List (ala × Obj)} {σ:L2.St} {H:Hp} {s:ak7}
noncomputable def bS (kis:List (List Int)) (i j:Nat):Bool:=HT.lexLt (kis.getD i []) (kis.getD j [])
theorem jg (kis:List (List Int)):Ord (bS kis):=⟨fun h=>LV h,fun h1 h2=>LW h1 h2⟩
noncomputable def cR {α:Type} (kis:List (List Int)) (d:α) (as:List α):List α:=(bJ (bS kis) as.length).toList.map fun i=>as.getD i d
theorem oE {α:Type} {kis:List (List Int)} {d:α} {as:List α}:(cR kis d as).Perm as:=by
 have h:=(kU (n:=as.length) (jg kis)).1
 have q:=h.map (fun i=>as.getD i d)
 have self:(al4 as.length).map (fun i=>as.getD i d)=as:=by
  apply aqd
  ·simp
  ·intro i h1 h2
   simp[ak4,h2]
 rw[self] at q
 exact q
theorem LY {α:Type} {kis:List (List Int)} {d:α} {as:List α}:(cR kis d as).length=as.length:=oE.length_eq
theorem LZ {α:Type} {kis:List (List Int)} {d:α} {as:List α} {f:α->List Int} (hk:kis=as.map f):(cR kis d as).Pairwise (fun a b=>HT.lexLt (f b) (f a)=false):=by
 obtain⟨hp,hs⟩:=kU (n:=as.length) (jg kis)
 have sz:=hp.size
 unfold cR
 rw[List.pairwise_map]
 refine anA.mpr fun i j hi hj gx=>?_
 have bM:i<(bJ (bS kis) as.length).size:=by simpa using hi
 have zG:j<(bJ (bS kis) as.length).size:=by simpa using hj
 have q:=hs i j (by lia) (by lia)
 have e1:(bJ (bS kis) as.length).getD i 0=(bJ (bS kis) as.length)[i]:=by simp[apW,bM]
 have e2:(bJ (bS kis) as.length).getD j 0=(bJ (bS kis) as.length)[j]:=by simp[apW,zG]
 have l1:=b6.below hp (i:=i) (by lia)
 have l2:=b6.below hp (i:=j) (by lia)
 rw[e1,e2] at q
 rw[e1] at l1
 rw[e2] at l2
 have q2:HT.lexLt (kis.getD (bJ (bS kis) as.length)[j] []) (kis.getD (bJ (bS kis) as.length)[i] [])=false:=q
 have g:∀ k,k<as.length->kis.getD k []=f (as.getD k d):=fun k ed=>by
  subst hk
  simp[ak4,ed]
 simp only[Array.getElem_toList]
 rw[g _ l1,g _ l2] at q2
 exact q2
theorem Ve {xs:List V} {vs:List ak3} {kis:List (List Int)} (r:Vals xs vs):Vals (cR kis .non xs) ((bJ (bS kis) xs.length).toList.map fun i=>vs.getD i Value.none):=by
 have hp:=(kU (n:=xs.length) (jg kis)).1
 have gen:∀ l:List Nat,(∀ i∈l,i<xs.length)->Vals (l.map fun i=>xs.getD i .non) (l.map fun i=>vs.getD i Value.none):=by
  intro l
  induction l with
  | nil=>intro _;exact .nil
  | cons i l ih =>
   intro h
   have hi:=h i (.head _)
   refine .cons ?_ (ih fun j hj=>h j (.tail _ hj))
   have e:xs[i]?=some xs[i]:=ak9 hi
   obtain⟨u,eu,ru⟩:=r.get e
   show RelV (xs.getD i .non) (vs.getD i Value.none)
   rw[ak4,ak4,eu,e]
   exact ru
 exact gen _ fun i hi=>by simpa using hp.mem_iff.mp hi
end
section
variable {X:Cx} {pins:List (ala × Obj)} {σ:L2.St} {H:Hp} {s:ak7} {CX:dY} {k:Nat} {fa a:ala} {fd:alB} {y:Str} {sp:Sp} {xs:List V} {Q:VK}
end
end Gz
namespace Gz
open PySem PySem.Spec PyProof.Rows L2
local macro_rules | `(tactic| walk_at "om") => `(tactic| ((try simp only [PySem.Addr] at *); lia))
inductive jh (X:Cx) (scope:apo) (cl:List (Str × ala)):List Nat->List Str->Prop where
 | nil:jh X scope cl [] []
 | cons {j:Nat} {y:Str} {c:ala} {js:List Nat} {ys:List Str} (hN:X.N[j]?=some y) (hk:X.env.kindOf y=some .cell) (h1:cl.lookup y=some c) (h2:X.env.cells.lookup y=some c) (h:jh X scope cl js ys):jh X scope cl (j::js) (y::ys)
inductive kW (X:Cx):List (Str × ala)->Prop where
 | nil:kW X []
 | cons {n:Str} {a:ala} {r:List (Str × ala)} (h:X.env.cells.lookup n=some a) (t:kW X r):kW X ((n,a)::r)
theorem kW.get {X:Cx}:∀ {cl:List (Str × ala)},kW X cl->∀ y c,cl.lookup y=some c->X.env.cells.lookup y=some c
 | _,.nil,y,c,e=>by simp at e
 | _,.cons (n:=n) h t,y,c,e=>by
  rw[List.lookup_cons] at e
  by_cases hy:(y == n)=true
  ·rw[hy] at e
   have e1:y=n:=by simpa using hy
   cases e
   rw[e1];exact h
  ·rw[Bool.eq_false_iff.mpr hy] at e
   exact t.get y c e
theorem jh.get {X:Cx} {scope:apo} {cl:List (Str × ala)} {σ:L2.St}:∀ {js:List Nat} {ys:List Str},jh X scope cl js ys->∀ (i:Nat) (y:Str) (v:V),ys[i]?=some y->(js.map fun j=>(σ[j]?).join)[i]?=some (some v) ->
 ∃ (j:Nat) (c:ala),X.N[j]?=some y/\σ[j]?=some (some v)/\X.env.kindOf y=some .cell/\cl.lookup y=some c/\X.env.cells.lookup y=some c
 | _,_,.nil,i,y,v,e,_=>by simp at e
 | _,_,.cons (j:=j) hN hk h1 h2 h,0,y,v,e,q=>by
  simp at e q
  subst e
  refine⟨j,_,hN,?_,hk,h1,h2⟩
  cases z:σ[j]? with
  | none=>rw[z] at q;simp at q
  | some o=>rw[z] at q;simp at q;rw[q]
 | _,_,.cons hN hk h1 h2 h,i+1,y,v,e,q=>by
  simp only[anc,alH] at e q
  exact h.get i y v e q
theorem jh.len {X:Cx} {scope:apo} {cl:List (Str × ala)}:∀ {js:List Nat} {ys:List Str},jh X scope cl js ys->js.length=ys.length
 | _,_,.nil=>rfl
 | _,_,.cons _ _ _ _ h=>by simp[h.len]
noncomputable def bG (X:Cx) (N':List Str) (scope:apo) (cl:List (Str × ala)) (C:ala) (s2:ak7) (H2:Hp) (ex:List ala) (pn:List (ala × Obj)):Cx :=
 { X with N:=N',s₀:=s2,H₀:=H2,env:=apy scope cl C X.env,outer:=X.stack,ex:=ex,fn:=fun _=>false,pn:=pn,xe:=fun _ _=>False }
structure di (X:Cx) (x:Str) (scope:apo) (cl:List (Str × ala)) (fr:List Nat) (ys:List Str):Prop where
 clos:closureFor scope X.env=pure cl
 nocell:(scope.names.all fun p=>p.2 != .cell)=true
 kind:scope.kind = .function
 names:(scope.names.all fun p=>p.2 != .local || scope.names.lookup p.1 == some .local)=true
 own:scope.names.lookup x=some .local
 kinds:((relabel scope X.env).names.all fun p=>(p.2 != .cell && p.2 != .free) || (cl.lookup p.1).isSome)=true
 cls:kW X cl
 bf:jh X scope cl fr ys
 nd:(x::ys).Nodup
 kfr:(ys.all fun y=>(relabel scope X.env).names.lookup y == some .cell)=true
noncomputable def kX (X:Cx) (ifs:List am7) (t:TT):Prop :=
 ∀ (pins:List (ala × Obj)) (s:ak7) (σ:L2.St) (H:Hp) (Q:Bool->Hp->Prop),Inv X pins σ H s->t σ H Q ->
  alu (model X.prog X.w) X.A (forIn ifs true fun c r=>if r=true then do let ok <- asN c X.env (eval c X.env);pure (an1 ok) else pure (an1 r)) (TP X pins σ Q) X.xe s
noncomputable def L0:TT:=fun _ H Q=>Q true H
theorem iB {X:Cx}:kX X [] L0:=fun _ _ _ H _ I h=>wpAny_tests_nil ⟨H,I,h⟩
theorem jV {X:Cx} {c:am7} {t:TT} (hc:PT X c t):kX X [c] t:=fun pins s σ H Q I h=>wpAny_tests_one (hc pins s σ H Q I h)
noncomputable def su (J:It) (ρ:L2.St) (tt:TT) (te:TE) (H:Hp) (Q:VK):Prop:=∃ W:Nat->Nat->List V->Hp->Prop,(∃ m,W 0 m [] H)/\∀ i m ys H,W i m ys H ->
 (J.stop i H/\ys.length<=alI/\∀ l,H l=none->Q (.ref l) (upd H l (.lst ys)))∨(J.go i H/\ys.length<alI/\∃ N:List V->Hp->Prop,(∀ zs H',N zs H'->∃ m',m'<m/\W (i+1) m' zs H') /\
  ∀ x H',J.yld i H x H'->tt (some x::ρ) H' fun b H1=>if b=true then te (some x::ρ) H1 fun y H2=>N (ys++[y]) H2 else N ys H1)
noncomputable def zH (wi:TI) (fr:List Nat) (tt:TT) (te:TE):TE:=fun σ H Q=>wi σ H fun J H1=>su J (fr.map fun j=>(σ[j]?).join) tt te H1 Q
section
variable {X:Cx} {pins:List (ala × Obj)} {σ:L2.St} {H2:Hp} {s2:ak7} {x:Str} {px pos:Pos} {elt iter:am7} {ifs:List am7} {scope:apo} {cl:List (Str × ala)} {fr:List Nat} {ys:List Str} {tt:TT} {te:TE}
theorem vN {l:List (Str × aqS)} {p:Str × aqS->Bool} (h:l.all p=true) {y:Str} {k:aqS} (e:l.lookup y=some k):p (y,k)=true:=by
 exact amA.mp h _ (ank e)
theorem Vf {C:ala} {ex:List ala} {pn:List (ala × Obj)} (S:di X x scope cl fr ys) (I2:Inv X pins σ H2 s2) (f2:∀ b∈ex,cW X pins H2 b) (hC:s2.heap.objs.size<=C) (hex:∀ b∈ex,b<s2.heap.objs.size):(bG X (x::ys) scope cl C s2 H2 ex pn).Ok:=by
 refine⟨I2.ok.mod,S.kind,I2.ok.glob,I2.ok.blt,hC,fun a b c h1 h2=>?_,fun y hy=>?_,fun _ _ z=>(nomatch z),I2.ok.hd,I2.ok.frames,.inl rfl,fun b hb=>⟨?_,fun y c e z=>?_⟩,I2.bs,alp I2.ok.bsz I2.sz,fun b o e hb=>?_,fun b hb z=>?_,I2.stack,I2.rK⟩
 ·exact I2.ok.inj a b c (S.cls.get a c h1) (S.cls.get b c h2)
 ·have zI:(relabel scope X.env).names.lookup y=some .cell∨(relabel scope X.env).names.lookup y=some .free:=hy
  have q:(cl.lookup y).isSome=true:=by
   rcases zI with e|e
   ·simpa using vN S.kinds e
   ·simpa using vN S.kinds e
  exact amS.mp q
 ·exact alA (alC (hex b hb) hC)
 ·exact (f2 b hb).2.2.2.2.1 y c (S.cls.get y c e) z
 ·obtain⟨_,_,_,d,_,_⟩:=f2 b hb
  rcases d with d|d
  ·exact I2.ok.noex b o e d
  ·exact absurd (alC (alb e) (alp I2.ok.bsz d)) (amL _)
 ·obtain⟨_,d1,d2,_⟩:=f2 b hb
  rcases alk.mp (I2.ip b z) with q|q
  ·exact d1 q
  ·exact d2 q
theorem L6 {J:It} {fp:List ala} {it:ala} {tn:Nat->amH->Prop} {E:ak3->ak7->Prop} {Q:VK} {RR:ak3->ala->apQ->ak7->Prop}
 (S:di X x scope cl fr ys) (hc:X.calm=true)
 (hb:∀ (C:ala) (s:ak7) (H:Hp) (ex:List ala) (pn:List (ala × Obj)),kX (bG X (x::ys) scope cl C s H ex pn) ifs tt/\PE (bG X (x::ys) scope cl C s H ex pn) elt te)
 (I2:Inv X pins σ H2 s2) (T:Turn X.prog X.w X.K (.Name x px) J fp it tn) (eX:tn 0 s2.heap) (f2:∀ b∈fp,cW X pins H2 b)
 (h:su J (fr.map fun j=>(σ[j]?).join) tt te H2 Q)
 (zJ:∀ D C s' H',Inv X pins σ H' s'->(∃ m,s'.heap.Ns C m)->cW X pins H' C->Q (.ref D) H'->RR (.ref D) C (.ok .next) s') :
 alu (model X.prog X.w) X.A (as0 []) (fun acc s3=>alu (model X.prog X.w) X.A (newFunctionEnv scope X.env.globals cl [] X.env.qual none .none (some X.env)) (fun sx s4 =>
  anR (model X.prog X.w) X.A (.compStart (.ListComp elt [⟨.Name x px,iter,ifs,0⟩] scope pos) 0 (.ref it) acc { sx with scope:=relabel scope X.env }) (RR acc sx.locals) s4) E s3) E s2:=by
 obtain⟨W,⟨m0,w0⟩,turn⟩:=h
 refine amd (aqW (fun y hy=>by simpa using amA.mp S.nocell y hy) (fun y hy=>absurd hy (by simp)) (fun h1 gq eL=>?_) S.kind)
 dsimp only at gq eL ⊢
 generalize eP:s2.heap.push { cls:=.type "list",dict:=none,data:=.seq ([]:List ak3).toArray }=P2 at gq eL ⊢
 have sz:P2.objs.size=s2.heap.objs.size+1:=by rw[<- eP,anz]
 have fV:s2.heap.objs.size≠P2.objs.size:=by walk_at "om"
 have keep:∀ b o,s2.heap.get? b=some o->h1.get? b=some o:=fun b o e=>by
  have lt:=alb e
  exact eL.extBut b o (by walk_at "om") (ak5 _ (eP ▸ ak5 _ e))
 have hD:h1.get? s2.heap.objs.size=some { cls:=.type "list",data:=.seq ([]:List ak3).toArray 0 } :=
  eL.extBut _ _ fV (ak5 _ (eP ▸ aln _ rfl))
 have eZ:∀ b∈fp,b<s2.heap.objs.size:=fun b hb=>by
  obtain⟨o,e,_⟩:=T.obj 0 _ eX b hb
  exact alb e
 have sy:∀ b,s2.heap.objs.size<=b->b∉bf X.stack:=fun b hle z=>by
  rcases alk.mp (I2.ip b z) with q|q
  ·have:=I2.lt;walk_at "om"
  ·exact I2.yA hle q
 generalize eC:P2.objs.size=C at gq eL fV ⊢
 generalize eD:s2.heap.objs.size=D at fV hD eZ sy
 have kY:s2.heap.objs.size<=C:=by walk_at "om"
 have sA:s2.heap.objs.size<=D:=by walk_at "om"
 have ji:(bG X (x::ys) scope cl C s2 H2 fp (X.pn++pins)).Ok:=Vf S I2 f2 kY (fun b hb=>by have:=eZ b hb;walk_at "om")
 have sC:∀ p∈X.pn++pins,p.1≠C/\p.1≠D/\p.1∉bf X.stack/\∀ b∈fp,p.1≠b:=fun p hp=>by
  obtain⟨e,n,nL,nf,_⟩:=I2.pin p hp
  have lt:=alb e
  refine⟨by walk_at "om",by walk_at "om",fun z=>?_,fun b hb=>(f2 b hb).2.2.2.2.2 p hp⟩
  rcases alk.mp (I2.ip _ z) with q|q
  ·exact nL q
  ·exact nf q
 have I4:Inv (bG X (x::ys) scope cl C s2 H2 fp (X.pn++pins)) [] (none::fr.map fun j=>(σ[j]?).join) H2 { s2 with heap:=h1,toks:=s2.toks+([]:List (Str × ak3)).length }:=by
  refine⟨ji,rfl,I2.bare,Un.kept keep,⟨_,gq,fun i y v e1 e2 e3=>?_⟩,fun y c e=>?_,I2.ao.fresh kY,fun y c e=>I2.gj y c (S.cls.get y c e),fun p hp=>?_,I2.ao.kept keep,?_⟩
  ·cases i with
   | zero=>simp at e2
   | succ i =>
    simp only[anc] at e1 e2
    have sD:ys[i]?=some y:=e1
    obtain⟨j,c,hN,hσ,hk,zK,zL⟩:=S.bf.get i y v sD e2
    obtain⟨m,hm,hl⟩:=I2.loc
    obtain⟨u,ru,lu⟩:=hl j y v hN hσ (.inr (.inl hk))
    refine⟨u,ru,.inr ⟨.inl ?_,c,zK,?_⟩⟩
    ·have z:=amA.mp S.kfr y (alx sD)
     exact (by simpa using z:(relabel scope X.env).names.lookup y=some .cell)
    ·rcases lu with ⟨z,_⟩|⟨_,c',e',q'⟩
     ·rw[hk] at z;cases z
     ·rw[zL] at e';cases e'
      obtain⟨o,ho,hd⟩:=q'
      exact⟨o,keep _ _ ho,hd⟩
  ·obtain⟨v,o,ho,hd⟩:=I2.cell y c (S.cls.get y c e)
   exact⟨v,o,keep _ _ ho,hd⟩
  ·have cn:p∈X.pn++pins:=by
    have:p∈(X.pn++pins)++[]:=hp
    simpa using this
   obtain⟨e,n,_,_,d⟩:=I2.pin p cn
   obtain⟨p1,_,p3,_⟩:=sC p cn
   exact⟨keep _ _ e,n,p1,p3,d⟩
  ·show (none::fr.map fun j=>(σ[j]?).join).length=(x::ys).length
   simp[S.bf.len]
 have sE:tn 0 h1:=T.keep 0 _ _ eX fun b _ o e=>keep b o e
 have kZ:∀ (H':Hp) (o:Obj),(∀ b∈fp,H' b=none)->∀ b∈fp,cW (bG X (x::ys) scope cl C s2 H2 fp (X.pn++pins)) [(D,o)] H' b:=fun H' o hn b hb=>by
  obtain⟨_,d1,d2,d3,d4,d5⟩:=f2 b hb
  have lt:=eZ b hb
  refine⟨hn b hb,?_,fun z=>?_,.inl hb,fun y c e=>d4 y c (S.cls.get y c e),fun p hp=>?_⟩
  ·show b≠C
   walk_at "om"
  ·rcases alk.mp (I2.ip b z) with q|q
   ·exact d1 q
   ·exact d2 q
  ·have cn:p∈(X.pn++pins)++[(D,o)]:=hp
   rcases alK.mp cn with z|z
   ·exact d5 p z
   ·have:p=(D,o):=by simpa using z
    subst this
    show D≠b
    walk_at "om"
 have loop:∀ s':ak7,s' = { s2 with heap:=h1,toks:=s2.toks+([]:List (Str × ak3)).length } ->
  anR (model X.prog X.w) X.A (.compLoop (.ListComp elt [⟨.Name x px,iter,ifs,0⟩] scope pos) 0 (.ref it) (.ref D) (apy scope cl C X.env)) (RR (.ref D) C) s':=by
  rintro s' rfl
  refine codeAny_compLoop_tests (fun n s'=>∃ i zs H' o ai nn,Inv (bG X (x::ys) scope cl C s2 H2 fp (X.pn++pins)) [] (o::fr.map fun j=>(σ[j]?).join) H' s'/\tn i s'.heap/\(∀ b∈fp,H' b=none)/\H' D=none /\
   s'.heap.get? D=some { cls:=.type "list",data:=.seq (ai:List ak3).toArray nn }/\Vals zs ai/\W i n zs H') ?_ m0 ⟨0,[],H2,none,[],0,I4,sE,fun b hb=>(f2 b hb).1,I2.ao.fresh sA,hD,.nil,w0⟩
  rintro n s3 ⟨i,zs,H3,o3,ai,nn,I3,jN,jO,k6,zM,r3,w3⟩
  have sF:Inv (bG X (x::ys) scope cl C s2 H2 fp (X.pn++pins)) [(D,{ cls:=.type "list",data:=.seq ai.toArray nn })] (o3::fr.map fun j=>(σ[j]?).join) H3 s3:=I3.kD fun p hp=>by
   have:p=(D,{ cls:=.type "list",data:=.seq ai.toArray nn }):=by simpa using hp
   subst this
   exact⟨zM,k6,fV,sy D (alm _),fun v z=>nomatch z⟩
  rcases turn i n zs H3 w3 with ⟨stop,hlen,q⟩|⟨go,hlen,N,sH,step⟩
  ·refine amc (T.done (bG X (x::ys) scope cl C s2 H2 fp (X.pn++pins)) rfl rfl rfl hc i _ s3 _ H3 (fun _ _=>False) sF (kZ H3 _ jO) jN stop) (fun r s4 ⟨hr,J4⟩=>?_) fun _ _ z=>z.elim
   subst hr
   have un:=J4.base
   have zN:∀ b o,s2.heap.get? b=some o->b≠D:=fun b o e=>by have:=alb e;walk_at "om"
   have e9:∀ b u,H3 b=some u->b≠D:=fun b u e z=>by rw[z,k6] at e;cases e
   refine zJ D C s4 (upd H3 D (.lst zs)) ?_ ?_ ?_ (q D k6)
   ·refine I2.JR (ch:=fp) J4.os ⟨un.keep,un.slot,fun b o e nn hx=>?_,un.there,fun b xs e=>?_,fun b o u e=>?_,fun b ps e=>?_⟩ (fun a o e=>?_) J4.bare fun b hb=>?_
    ·rw[aH (zN b o e)];exact un.free b o e nn hx
    ·have:=un.ff b xs e;rw[aH (e9 b _ this)];exact this
    ·have:=un.eG b o u e;rw[aH (e9 b _ this)];exact this
    ·obtain⟨more,this⟩:=un.fg b ps e
     exact⟨more,by rw[aH (e9 b _ this)];exact this⟩
    ·by_cases ha:a=D
     ·subst ha
      rw[au] at e;cases e
      exact⟨hlen,ai,nn,r3,(J4.pin (a,_) (alq _ (alP.mpr rfl))).1⟩
     ·rw[aH ha] at e
      exact (J4.ao a o e).fI (fun _ _ _ z=>z) (fun b z=>by rw[aH (e9 b _ z)];exact z) fun b xs z=>by rw[aH (e9 b _ z)];exact z
    ·obtain⟨_,d1,d2,d3,d4,d5⟩:=f2 b hb
     exact⟨d3,d1,d4,d5⟩
   ·obtain⟨m,hm,_⟩:=J4.loc
    exact⟨m,hm⟩
   ·exact I2.fL kY (by rw[aH (al5 fV)];exact J4.free)
  ·refine amc (T.item (bG X (x::ys) scope cl C s2 H2 fp (X.pn++pins)) rfl rfl rfl hc i _ s3 _ H3 (fun _ _=>False) sF (kZ H3 _ jO) jN go) (fun r s4 ⟨u,hr,h4⟩=>?_) fun _ _ z=>z.elim
   subst hr
   have go':alu (model X.prog X.w) X.A (anV (.Name x px) (.ref it) u >>= fun _=>assign (.Name x px) (apy scope cl C X.env) u) (fun _ s5 =>
    alu (model X.prog X.w) X.A (forIn ifs true fun c r=>if r=true then do let ok <- asN c (apy scope cl C X.env) (eval c (apy scope cl C X.env));pure (an1 ok) else pure (an1 r)) (fun ok s6 =>
     if ok=true then alu (model X.prog X.w) X.A (eval elt (apy scope cl C X.env)) (fun y s7 =>
      alu (model X.prog X.w) X.A (call (.builtin "list.append") [.ref D,y]) (fun _ s8=>∃ m,m<n/\∃ i zs H' o ai nn,Inv (bG X (x::ys) scope cl C s2 H2 fp (X.pn++pins)) [] (o::fr.map fun j=>(σ[j]?).join) H' s8/\tn i s8.heap/\(∀ b∈fp,H' b=none)/\H' D=none /\
       s8.heap.get? D=some { cls:=.type "list",data:=.seq (ai:List ak3).toArray nn }/\Vals zs ai/\W i m zs H') (fun _ _=>False) s7) (fun _ _=>False) s6
     else ∃ m,m<n/\∃ i zs H' o ai nn,Inv (bG X (x::ys) scope cl C s2 H2 fp (X.pn++pins)) [] (o::fr.map fun j=>(σ[j]?).join) H' s6/\tn i s6.heap/\(∀ b∈fp,H' b=none)/\H' D=none /\
      s6.heap.get? D=some { cls:=.type "list",data:=.seq (ai:List ak3).toArray nn }/\Vals zs ai/\W i m zs H') (fun _ _=>False) s5) (fun _ _=>False) s4:=by
    refine ak1 (aC h4 fun _ s5 ⟨y5,H5,I5,r5,yl,gO,rS⟩=>?_)
    have rT:=I5.pinned (kZ H5 _ rS) (T.obj _ _ gO)
    refine aC (bo (X:=bG X (x::ys) scope cl C s2 H2 fp (X.pn++pins)) (i:=0) S.nd rfl (.inl (alX S.own)) (.inr (alX S.own)) _ s5 _ H5 y5 u (fun σ' H'=>σ'=(some y5::fr.map fun j=>(σ[j]?).join)/\H'=H5) rT r5 ⟨rfl,rfl⟩) fun _ s6 ⟨σ6,H6,I6,e6,Vg⟩=>?_
    subst e6 Vg
    have after:∀ (s7:ak7) (H7:Hp),Inv (bG X (x::ys) scope cl C s2 H2 fp (X.pn++pins)) ([(D,{ cls:=.type "list",data:=.seq ai.toArray nn })]++n5 fp s5.heap) (some y5::fr.map fun j=>(σ[j]?).join) H7 s7 ->
     Inv (bG X (x::ys) scope cl C s2 H2 fp (X.pn++pins)) [] (some y5::fr.map fun j=>(σ[j]?).join) H7 s7/\tn (i+1) s7.heap/\(∀ b∈fp,H7 b=none)/\H7 D=none/\s7.heap.get? D=some { cls:=.type "list",data:=.seq ai.toArray nn }:=fun s7 H7 I7=>by
     have pD:=I7.pin (D,{ cls:=.type "list",data:=.seq ai.toArray nn }) (alq _ (amE _ (alP.mpr rfl)))
     refine⟨I7.kD fun p hp=>absurd hp (by simp),T.keep _ _ _ gO fun b hb o e=>(I7.pin (b,o) (alq _ (alq _ (n6 hb e)))).1,fun b hb=>?_,pD.2.1,pD.1⟩
     obtain⟨o,e,_⟩:=T.obj _ _ gO b hb
     exact (I7.pin (b,o) (alq _ (alq _ (n6 hb e)))).2.1
    refine aC ((hb C s2 H2 fp (X.pn++pins)).1 _ s6 _ H6 _ I6 (step y5 H6 yl)) fun ok s7 ⟨H7,I7,q7⟩=>?_
    dsimp only at q7
    by_cases ao:ok=true
    ·rw[if_pos ao] at q7 ⊢
     refine aC ((hb C s2 H2 fp (X.pn++pins)).2 _ s7 _ H7 _ I7 q7) fun yv s8 ⟨y8,H8,I8,r8,n8⟩=>?_
     obtain⟨m',k7,w8⟩:=sH _ _ n8
     obtain⟨J8,zO,zP,sI,k8⟩:=after s8 H8 I8
     have hl:=r3.length
     refine apT apx ⟨_,k8,rfl⟩ apc (ao7 _ _) (apU D ai.toArray nn yv (by rw[alo];walk_at "om")) ⟨k8,?_⟩
     have sJ:=aqc k8 (fun a=>a.push yv)
     rw[arL] at sJ
     refine⟨m',k7,i+1,zs++[y8],H8,some y5,ai++[yv],_,J8.turned (it:=D) (fun b o bE e=>(alg _ _ (al5 bE)).trans e) sI fV (.inr sA) (fun y c e z=>?_) (fun p hp=>?_),T.keep _ _ _ zO fun b bE o e=>?_,zP,sI,sJ,r3.append (.cons r8 .nil),w8⟩
     ·obtain⟨v,o,ho,_⟩:=I2.cell y c (S.cls.get y c e)
      have:=alb ho
      walk_at "om"
     ·have cn:p∈X.pn++pins:=by
       have:p∈(X.pn++pins)++[]:=hp
       simpa using this
      exact (sC p cn).2.1
     ·have:=eZ b bE
      exact (alg _ _ (by walk_at "om")).trans e
    ·rw[if_neg ao] at q7 ⊢
     obtain⟨m',k7,w7⟩:=sH _ _ q7
     obtain⟨J7,zQ,zR,zS,zT⟩:=after s7 H7 I7
     exact⟨m',k7,i+1,zs,H7,some y5,ai,nn,J7,zQ,zR,zS,zT,r3,w7⟩
   have e0:(anV (.Name x px) (.ref it) u >>= fun _=>assign (.Name x px) (apy scope cl C X.env) u)=assign (.Name x px) (apy scope cl C X.env) u:=rfl
   rw[e0] at go'
   refine amc go' (fun _ s5 h5=>amc h5 (fun ok s6 h6=>?_) fun _ _ z=>z.elim) fun _ _ z=>z.elim
   by_cases ao:ok=true
   ·rw[if_pos ao] at h6 ⊢
    exact amc h6 (fun y s7 h7=>amc h7 (fun _ _ z=>z) fun _ _ z=>z.elim) fun _ _ z=>z.elim
   ·rw[if_neg ao] at h6 ⊢
    exact h6
 exact aqm (loop _ rfl) (T.self X.A 0 _ _ _ sE (loop _ rfl))
theorem fq {wi:TI} (S:di X x scope cl fr ys) (hc:X.calm=true) (hi:PI X (.Name x px) iter wi)
 (hb:∀ (C:ala) (s:ak7) (H:Hp) (ex:List ala) (pn:List (ala × Obj)),kX (bG X (x::ys) scope cl C s H ex pn) ifs tt/\PE (bG X (x::ys) scope cl C s H ex pn) elt te)
 (hs:∀ z,aoI iter X.env z=pure z:=by intro _;rfl):PE X (.ListComp elt [⟨.Name x px,iter,ifs,0⟩] scope pos) (zH wi fr tt te):=by
 intro pins s σ H Q I h
 rw[eval_ListComp]
 refine aos (use:=none) rfl hs S.clos S.kind (fun y hy hl=>?_) (aC (hi pins s σ H _ I h) fun xv s1 h1=>aC h1 fun rQ s2 h2=>?_)
 ·have z:=amA.mp S.names y hy
  rw[hl] at z
  simpa using z
 ·obtain⟨it,fp,tn,J,H2,rfl,I2,T,eX,f2,hB⟩:=h2
  refine L6 (RR:=fun acc C=>compPost (model X.prog X.w) X.A X.xe none (EP X pins σ Q) acc C) S hc hb I2 T eX f2 hB fun D C s' H' J' hn fC q=>?_
  obtain⟨m,hm⟩:=hn
  obtain⟨c0,c1,c2,c3,c4,c5⟩:=fC
  exact⟨m,hm,fun h' sb=>⟨.ref D,H',J'.turned (it:=C) (fun b o hb e=>sb.extBut b o hb e) c0 c1 c3 c4 c5,rfl,q⟩⟩
noncomputable def L8 (i:Nat) (te:TE):TS:=fun D σ H=>te σ H fun v H1=>D.nx (σ.set i (some v)) H1
theorem L9 {wi:TI} {y:Str} {py Ma:Pos} {i:Nat} (S:di X x scope cl fr ys) (hc:X.calm=true) (hN:X.N.Nodup) (hy:X.N[i]?=some y) (hl:X.env.scope.names.lookup y=some .local) (hi:PI X (.Name x px) iter wi)
 (hb:∀ (C:ala) (s:ak7) (H:Hp) (ex:List ala) (pn:List (ala × Obj)),kX (bG X (x::ys) scope cl C s H ex pn) ifs tt/\PE (bG X (x::ys) scope cl C s H ex pn) elt te)
 (Vh:aqy (.ListComp elt [⟨.Name x px,iter,ifs,0⟩] scope pos) (some (.Name y py)) Ma.line X.env=pure true:=by rfl)
 (hs:∀ z,aoI iter X.env z=pure z:=by intro _;rfl):PS X (.Assign [.Name y py] (.ListComp elt [⟨.Name x px,iter,ifs,0⟩] scope pos) Ma) (L8 i (zH wi fr tt te)):=by
 intro pins s σ H Dn I h
 rw[exec_Assign_Name_used _ _ _ _ Vh]
 refine ak1 (aro (ak1 ?_))
 show alu _ X.A (do let _ <- comprehension (.ListComp elt [⟨.Name x px,iter,ifs,0⟩] scope pos) scope X.env _ (as0 []) false (eval iter X.env) (some (assign (.Name y py) X.env))) _ _ s
 refine ak1 (aC (aos (use:=some (assign (.Name y py) X.env)) (Q:=fun _ s'=>SP X pins Dn .next s') rfl hs S.clos S.kind (fun z hz hl=>?_) (aC (hi pins s σ H _ I h) fun xv s1 h1=>aC h1 fun rQ s2 h2=>?_)) fun _ s' hq=>ak6 (ak6 hq))
 ·have z':=amA.mp S.names z hz
  rw[hl] at z'
  simpa using z'
 ·obtain⟨it,fp,tn,J,H2,rfl,I2,T,eX,f2,hB⟩:=h2
  refine L6 (RR:=fun acc C=>compPost (model X.prog X.w) X.A X.xe (some (assign (.Name y py) X.env)) (fun _ s'=>SP X pins Dn .next s') acc C) S hc hb I2 T eX f2 hB fun D C s' H' J' hn fC q=>?_
  obtain⟨m,oC,es,ep,ho,hd,hr⟩:=hn
  obtain⟨c0,c1,c2,c3,c4,c5⟩:=fC
  have J2:Inv X (pins++[(C,oC)]) σ H' s':=J'.kD fun p hp=>by
   rcases alK.mp hp with z|z
   ·exact J'.pin p (alq _ z)
   ·have:p=(C,oC):=by simpa using z
    subst this
    exact⟨ho,c0,c1,c2,fun v z=>by rw[hd] at z;cases z⟩
  show alu _ X.A (assign (.Name y py) X.env (.ref D)) _ _ _
  refine aC (bo (X:=X) hN hy (.inl hl) (.inr hl) _ s' σ H' (.ref D) (.ref D) (fun σ' k9=>σ'=σ.set i (some (.ref D))/\k9=H') J2 rfl ⟨rfl,rfl⟩) fun _ s3 ⟨σ3,H3,J3,e1,e2⟩=>?_
  subst e1 e2
  obtain⟨pc,pn0,_⟩:=J3.pin (C,oC) (alq _ (alq _ (alP.mpr rfl)))
  refine⟨m,⟨oC,es,ep,pc,hd,hr⟩,fun h' sb=>⟨_,H3,J3.vz.turned (it:=C) (fun b o hb e=>sb.extBut b o hb e) c0 c1 c3 c4 c5,q⟩⟩
end
noncomputable def eM (Ok:Hp->Prop) (ρ:L2.St) (tt:TT) (te:TE):List V->List V->Hp->(List V->Hp->Prop)->Prop
 | [],ys,H,Q=>Ok H/\Q ys H
 | x::r,ys,H,Q=>Ok H/\tt (some x::ρ) H fun b H1=>if b=true then te (some x::ρ) H1 fun y H2=>eM Ok ρ tt te r (ys++[y]) H2 Q else eM Ok ρ tt te r ys H1 Q
structure vO (J:It) (Ok:Hp->Prop) (xs:List V):Prop where
 go:∀ i H x,Ok H->xs[i]?=some x->J.go i H
 yld:∀ i H x H',Ok H->J.yld i H x H'->H'=H/\(i<xs.length->xs[i]?=some x)
 stop:∀ i H,Ok H->xs.length<=i->J.stop i H
section
variable {J:It} {Ok:Hp->Prop} {xs:List V} {ρ:L2.St} {tt:TT} {te:TE} {H:Hp} {Q:VK} {K:ak2} {a:ala}
theorem ft (O:vO J Ok xs) (hn:xs.length<=alI) (h:eM Ok ρ tt te xs [] H fun ys H'=>∀ l,H' l=none->Q (.ref l) (upd H' l (.lst ys))):su J ρ tt te H Q:=by
 refine⟨fun i m ys H=>m=xs.length-i/\i<=xs.length/\ys.length<=i/\eM Ok ρ tt te (xs.drop i) ys H fun ys H'=>∀ l,H' l=none->Q (.ref l) (upd H' l (.lst ys)),⟨_,rfl,alv _,alm _,h⟩,?_⟩
 rintro i m ys H ⟨rfl,hi,hy,g⟩
 by_cases ba:i<xs.length
 ·have e:=amt ba
  rw[e] at g
  obtain⟨g0,g1⟩:=g
  refine .inr ⟨O.go i H _ g0 (ak9 ba),by walk_at "om",fun zs H'=>zs.length<=i+1/\eM Ok ρ tt te (xs.drop (i+1)) zs H' fun ys H'=>∀ l,H' l=none->Q (.ref l) (upd H' l (.lst ys)),fun zs H' q=>⟨_,by walk_at "om",rfl,ba,q.1,q.2⟩,fun x H' y=>?_⟩
  obtain⟨rfl,ex⟩:=O.yld i H x H' g0 y
  have ex:=ex ba
  rw[ak9 ba] at ex
  cases ex
  have l1:∀ y:V,(ys++[y]).length<=i+1:=fun y=>by rw[alD,aly];walk_at "om"
  have l2:ys.length<=i+1:=by walk_at "om"
  simp only[l1,l2,true_and]
  exact g1
 ·have e:i=xs.length:=by walk_at "om"
  subst e
  rw[ar2] at g
  exact .inl ⟨O.stop _ H g.1 (alm _),by walk_at "om",g.2⟩
theorem sL:vO (iu K a) (fun H=>ah K H a xs) xs :=
 ⟨fun _ _ _ h e=>⟨xs,_,h,e⟩,fun _ _ _ _ h y=>⟨y.1,fun _=>y.2 xs h⟩,fun _ _ h hi=>⟨xs,h,hi⟩⟩
theorem Mb:vO (rR K a) (fun H=>aj K H a xs) xs :=
 ⟨fun _ _ _ h e=>⟨xs,_,h,e⟩,fun _ _ _ _ h y=>⟨y.1,fun _=>y.2 xs h⟩,fun _ _ h hi=>⟨xs,h,hi⟩⟩
theorem lg {lo:Int} {n:Nat}:vO (gN lo n) (fun _=>True) ((al4 n).map fun k=>V.int (lo+(k:Nat))) :=
 ⟨fun i _ _ _ e=>by
  have:=(alj.mp e).1
  show i<n
  simpa using this,fun i _ _ _ _ y=>⟨y.1,fun hi=>by
   have bM:i<n:=by simpa using hi
   rw[y.2,alz,amQ bM];rfl⟩,fun i _ _ hi=>by
   show n<=i
   simpa using hi⟩
theorem vP {p:V->Bool} {f:V->V} {Q':List V->Hp->Prop} (dj:Ok H):∀ {xs ys:List V},(∀ x∈xs,∀ Q,Q (p x) H->tt (some x::ρ) H Q)->(∀ x∈xs,p x=true->∀ Q,Q (f x) H->te (some x::ρ) H Q)->Q' (ys++(xs.filter p).map f) H->eM Ok ρ tt te xs ys H Q'
 | [],ys,_,_,q=>⟨dj,by simpa using q⟩
 | x::r,ys,ht,he,q=>by
  refine⟨dj,ht x (.head _) _ ?_⟩
  by_cases hb:p x=true
  ·rw[if_pos hb]
   refine he x (.head _) hb _ (vP dj (fun y hy=>ht y (.tail _ hy)) (fun y hy=>he y (.tail _ hy)) ?_)
   rw[amg,if_pos hb] at q
   simpa using q
  ·rw[if_neg hb]
   refine vP dj (fun y hy=>ht y (.tail _ hy)) (fun y hy=>he y (.tail _ hy)) ?_
   rw[amg,if_neg hb] at q
   exact q
end
section
variable {X:Cx} {K:ak2}
theorem Vi (h:X.K=K):iz X (d0 K):=h ▸ cf
theorem Vj (h:X.K=K):bp X (amD .NotIn) (y9 K true):=h ▸ K2
end
end Gz
namespace Gz
open PySem PySem.Spec PyProof.Rows L2
mutual
inductive Dat (K:ak2) (H:Hp):V->anH->Prop where
 | non:Dat K H .non .none
 | bl (b:Bool):Dat K H (.bl b) (.bool b)
 | int (i:Int):Dat K H (.int i) (.int i)
 | str (x:Str):Dat K H (.str x) (.str x)
 | tup {a:ala} {xs:List V} {ds:List anH} (h:aj K H a xs) (r:ee K H xs ds):Dat K H (.ref a) (.tuple ds)
 | lst {a:ala} {xs:List V} {ds:List anH} (h:ah K H a xs) (r:ee K H xs ds):Dat K H (.ref a) (.list ds)
inductive ee (K:ak2) (H:Hp):List V->List anH->Prop where
 | nil:ee K H [] []
 | cons {x:V} {d:anH} {xs:List V} {ds:List anH} (h:Dat K H x d) (r:ee K H xs ds):ee K H (x::xs) (d::ds)
end
section
variable {X:Cx} {pins:List (ala × Obj)} {σ:L2.St} {H:Hp} {s:ak7}
mutual
theorem Dat.reads (I:Inv X pins σ H s):∀ (d:anH) {v:V} {u:ak3},Dat X.K H v d->RelV v u->∃ as,Reads s.heap u d as
 | .none,_,_,.non,r=>by cases r;exact⟨_,.none⟩
 | .bool b,_,_,.bl _,r=>by cases r;exact⟨_,.bool b⟩
 | .int i,_,_,.int _,r=>by obtain⟨t,rfl⟩:=r;exact⟨_,.int i t⟩
 | .str x,_,_,.str _,r=>by obtain⟨t,rfl⟩:=r;exact⟨_,.str x t⟩
 | .tuple ds,_,_,.tup h q,r=>by
  cases r
  obtain⟨ai,rv,⟨o,ho,hc,n,hd⟩,_⟩:=I.tuple h
  obtain⟨as,ra⟩:=ee.reads I ds q rv
  exact⟨_,.tuple ho hc hd (by simpa using ra)⟩
 | .list ds,_,_,.lst h q,r=>by
  cases r
  obtain⟨ai,rv,⟨o,n,ho,hc,_,hd⟩,_⟩:=I.list h
  obtain⟨as,ra⟩:=ee.reads I ds q rv
  exact⟨_,.list ho hc hd (by simpa using ra)⟩
theorem ee.reads (I:Inv X pins σ H s):∀ (ds:List anH) {vs:List V} {us:List ak3},ee X.K H vs ds->Vals vs us->∃ as,ReadsAll s.heap us ds as
 | [],_,_,.nil,r=>by cases r;exact⟨_,.nil⟩
 | d::ds,_,_,.cons h q,r=>by
  cases r with
  | cons r1 r2 =>
   obtain⟨as,ra⟩:=Dat.reads I d h r1
   obtain⟨bs,rb⟩:=ee.reads I ds q r2
   exact⟨_,.cons ra rb⟩
end
noncomputable def vQ (K:ak2) (neg:Bool):R2:=fun x y H Q=>∃ d e,Dat K H x d/\Dat K H y e/\d.canLay0=true/\e.canLay0=true/\d.depth<=60/\Q (.bl (if neg=true then !amZ d e else amZ d e)) H
theorem zU (hu:X.A.units+64<apr):bp X (amD .Eq) (vQ X.K false):=by
 intro pins s σ H x y v u Q I rx ry h
 obtain⟨d,e,dx,dy,c1,c2,dd,q⟩:=h
 obtain⟨as,ra⟩:=Dat.reads I d dx rx
 obtain⟨bs,rb⟩:=Dat.reads I e dy ry
 exact SeqAt.compareEq_reads ra rb c1 c2 (by lia) ⟨.bl _,H,I,rfl,q⟩
theorem Vk (hu:X.A.units+64<apr):bp X (amD .NotEq) (vQ X.K true):=by
 intro pins s σ H x y v u Q I rx ry h
 obtain⟨d,e,dx,dy,c1,c2,dd,q⟩:=h
 obtain⟨as,ra⟩:=Dat.reads I d dx rx
 obtain⟨bs,rb⟩:=Dat.reads I e dy ry
 exact SeqAt.compareNe_reads ra rb c1 c2 (by lia) ⟨.bl _,H,I,rfl,q⟩
end
end Gz
namespace Gz
open PySem PySem.Spec PyProof.Rows L2
noncomputable abbrev En:=Option Int
noncomputable def ev:En->V
 | none=>.non
 | some i=>.int i
theorem zV:ev none = .non:=rfl
theorem zW (i:Int):ev (some i) = .int i:=rfl
noncomputable def aY:En->En->Bool
 | some x,some y=>decide (y<x)
 | _,_=>false
noncomputable def aV (H:Hp) (v:V) (a b:En):Prop:=∃ p,v = .ref p/\H p=some (.tup [ev a,ev b])
theorem aV.same {H H1:Hp} {v:V} {a b:En} (h:aV H v a b) (s:ak H H1):aV H1 v a b:=by
 obtain⟨p,e,h⟩:=h
 exact⟨p,e,s _ _ h⟩
theorem aV.new {H:Hp} {p:ala} {a b:En}:aV (upd H p (.tup [ev a,ev b])) (.ref p) a b:=⟨p,rfl,au⟩
noncomputable def hold (a b:En) (n:Int):Bool:=!aY a (some n) && !aY (some n) b
theorem zX {a b:En} {n:Int}:hold a b n=true↔(∀ x,a=some x->x<=n)/\(∀ y,b=some y->n<=y):=by
 unfold hold
 rcases a with _|x<;>rcases b with _|y<;>simp[aY]
theorem Vl (b:En) (n:Int):hold none b n = !aY (some n) b:=by unfold hold aY;simp
theorem Mc (y n:Int):hold none (some y) n=decide (n<=y):=by
 rw[Vl]
 by_cases h:y<n
 ·simp[aY,h]
 ·simp[aY,h];lia
theorem Md {x n:Int} (b:En) (h:¬ n<x):hold (some x) b n=hold none b n:=by unfold hold;simp[aY,h]
theorem Vm {x n:Int} (b:En) (h:n<x):hold (some x) b n=false:=by unfold hold;simp[aY,h]
noncomputable def cX:En->En->En
 | some x,some y=>some (if y > x then y else x)
 | some x,none=>some x
 | none,b=>b
noncomputable def cY:En->En->En
 | some x,some y=>some (if y<x then y else x)
 | some x,none=>some x
 | none,b=>b
noncomputable def nums (a b:En):List Int:=[a,b].filterMap id
noncomputable def sM (v:V):Bool:=!decide (v = .non)
theorem Vn (a b:En):([ev a,ev b].filter sM).map (fun v=>v)=(nums a b).map V.int:=by
 rcases a with _|x<;>rcases b with _|y<;>simp[ev,nums,sM]
theorem Vo (a b:En):jU jS (nums a b) .non=ev (cX a b):=by
 rcases a with _|x<;>rcases b with _|y<;>simp[nums,cX,jS,jU,ev]
theorem Vp (a b:En):jU jT (nums a b) .non=ev (cY a b):=by
 rcases a with _|x<;>rcases b with _|y<;>simp[nums,cY,jT,jU,ev]
theorem Vq (b:En):aY none b=false:=by cases b<;>rfl
noncomputable def Me (H:Hp) (v:V) (lo hi:En):Prop:=(aY lo hi=true->v = .non)/\(aY lo hi=false->aV H v lo hi)
theorem Mf {K:ak2} {H:Hp} {p:ala} {a b:En} {Q:VK} {tt:TT} {te:TE} (hp:H p=some (.tup [ev a,ev b])) (ht:∀ x H Q,Q (sM x) H->tt [some x] H Q) (he:∀ x H Q,Q x H->te [some x] H Q)
 (q:∀ l,H l=none->Q (.ref l) (upd H l (.lst ((nums a b).map V.int)))):su (rR K p) [] tt te H Q:=by
 refine ft (xs:=[ev a,ev b]) Mb bq (vP (p:=sM) (f:=fun v=>v) (aj.of hp) (fun x _ Q h=>ht x H Q h) (fun x _ _ Q h=>he x H Q h) ?_)
 rw[al3,Vn]
 exact q
end Gz
namespace Gz
open L2
noncomputable abbrev S2:=En × En
noncomputable def hs (s:S2) (n:Int):Bool:=hold s.1 s.2 n
noncomputable def Mg (s:S2):Prop:=aY s.1 s.2=false
theorem Vr {s:S2} {n:Int}:hs s n=true↔(∀ x,s.1=some x->x<=n)/\(∀ y,s.2=some y->n<=y):=zX
noncomputable abbrev lh:=Option (List S2 × S2)
open PySem in
noncomputable def jW (H:Hp):List V->List S2->Prop
 | [],[]=>True
 | v::vs,s::ss=>aV H v s.1 s.2/\jW H vs ss
 | _,_=>False
section
variable {H H1:Hp} {K:ak2}
theorem aV.put {v:V} {a b:En} {l:PySem.Addr} {ys:List V} {o:HO} (h:aV H v a b) (hl:H l=some (.lst ys)):aV (upd H l o) v a b:=by
 obtain⟨p,e,h⟩:=h
 exact⟨p,e,by rw[aH (vf h hl fun z=>nomatch z)];exact h⟩
theorem jW.len:∀ {vs:List V} {ss:List S2},jW H vs ss->vs.length=ss.length
 | [],[],_=>rfl
 | _::_,_::_,h=>by simp[jW.len h.2]
 | [],_::_,h=>h.elim
 | _::_,[],h=>h.elim
open PySem
noncomputable def zY:En->anH
 | none=>.none
 | some i=>.int i
noncomputable def vR (s:S2):anH:=.tuple [zY s.1,zY s.2]
theorem Mh (e:En):Dat K H (ev e) (zY e):=by
 rcases e with _|x
 ·exact .non
 ·exact .int x
theorem aV.dat {v:V} {a b:En} (h:aV H v a b):Dat K H v (vR (a,b)):=by
 obtain⟨p,rfl,h⟩:=h
 exact .tup (aj.of h) (.cons (Mh a) (.cons (Mh b) .nil))
end
end Gz
namespace Gz
open PySem PySem.Spec PyProof.Rows L2
noncomputable def vS (lo st:Int) (n:Nat):It:=⟨fun i _=>i<n,fun i H x H'=>H'=H/\x = .int (lo+(i:Int) * st),fun i _=>n<=i⟩
theorem Vs {P:alr} {w:alS} {K:ak2} {tg:am7} (it:ala) (lo st:Int) (n:Nat):Turn P w K tg (vS lo st n) [it] it (fun i h=>ara h it (lo+(i:Nat) * st) ((n:Int)-(i:Nat)) st) where
 mem:=by simp
 obj:=fun i h q b hb=>by
  have e:b=it:=by simpa using hb
  subst e
  exact⟨_,q,fun v z=>by
   have z':Data.fields _=Data.cell v:=z
   cases z'⟩
 keep:=fun i h h' q k=>k it (by simp) _ q
 item:=by
  intro X hP hw hK hc i pins s σ H E I hf q hg
  subst hP hw hK
  obtain⟨f0,f1,f2,f3,f4,f5⟩:=hf it (by simp)
  have W:=Walks.range (prog:=X.prog) (w:=X.w) (I.ok.hd hc) it lo st n
  refine W.item i s _ _ hg q fun v h' tk hv q' kk=>?_
  obtain⟨t,rfl⟩:=hv
  have I1:Inv X pins σ H { s with heap:=h',toks:=tk }:=I.turned (fun b o hb e=>kk b o (by simpa using hb) e) f0 f1 f3 f4 f5
  exact⟨_,rfl,n4 (s:={ s with heap:=h',toks:=tk }) (n := "range_iterator") q' rfl rfl (by decide) ⟨.int (lo+(i:Int) * st),H,I1,⟨t,rfl⟩,⟨rfl,rfl⟩,q',fun b hb=>(hf b hb).1⟩⟩
 done:=by
  intro X hP hw hK hc i pins s σ H E I hf q hg
  subst hP hw hK
  obtain⟨f0,f1,f2,f3,f4,f5⟩:=hf it (by simp)
  exact aqh (I.ok.hd hc) q (by have:n<=i:=hg;lia) fun h' eb=>⟨rfl,I.turned (t':=s.toks) (fun b o hb e=>eb b o hb e) f0 f1 f3 f4 f5⟩
 self:=fun _ _ _ _ _ q h=>aqi q h
noncomputable def jX (lo hi st:Int):Nat:=(amf lo hi st).toNat
noncomputable def zZ (ta:TA):TI:=fun σ H R=>ta σ H fun vs H1=>∃ i j c:Int,vs=[.int i,.int j,.int c]/\(-1000000<=i/\i<=1000000/\-1000000<=j/\j<=1000000/\-1000000<=c/\c<=1000000/\c≠0)/\R (vS i c (jX i j c)) H1
theorem Mi (i j c:Int) (h:c≠0):0<=amf i j c:=by
 unfold amf
 split
 ·rename_i hc
  split
  ·have:=asw (show 0<=j-i-1 by lia) (show 0<=c by lia);lia
  ·lia
 ·split
  ·have:=asw (show 0<=i-j-1 by lia) (show 0 <= -c by lia);lia
  ·lia
theorem size_le (i j c:Int) (h : -1000000<=i/\i<=1000000/\-1000000<=j/\j<=1000000/\c≠0):amf i j c<=2000000:=by
 unfold amf
 split
 ·split
  ·have:=ar3 (c) (show 0<=j-i-1 by lia);lia
  ·lia
 ·split
  ·have:=ar3 (-c) (show 0<=i-j-1 by lia);lia
  ·lia
theorem Vt {i j c:Int} (h : -1000000<=i/\i<=1000000/\-1000000<=j/\j<=1000000/\-1000000<=c/\c<=1000000/\c≠0):Builtin.Range.small i j c=true:=by
 have h1:=Mi i j c h.2.2.2.2.2.2
 have h2:=size_le i j c ⟨h.1,h.2.1,h.2.2.1,h.2.2.2.1,h.2.2.2.2.2.2⟩
 unfold Builtin.Range.small
 generalize amf i j c=n at h1 h2 ⊢
 simp only[asx,amM,aow,decide_eq_true_eq,beq_iff_eq]
 refine⟨by lia,.inr ?_⟩
 split<;>simp only[amM,decide_eq_true_eq]<;>lia
theorem Vu {X:Cx} {tg a b c:am7} {ta:TA} {p pos:Pos} (hg:Gl X "range") (hm:X.mg "range" = none) (ha:PA X [a,b,c] ta) (hs:alM [a,b,c] X.env=(false,eval a X.env)::alM [b,c] X.env:=by rfl) (cN:alM [b,c] X.env=[(false,eval b X.env),(false,eval c X.env)]:=by rfl) :
 PI X tg (.Call (.Name "range" p) [a,b,c] [] pos) (zZ ta):=by
 intro pins s σ H R I h
 refine atl (eW I hg hm asP (alW (aC (ha pos pins s σ H _ I h) fun us s1 ⟨vs,H1,I1,r1,q1⟩=>?_) (by rw[hs]) (by rw[cN];rfl)))
 obtain⟨i,j,k,e,hb,q⟩:=q1
 subst e
 cases r1 with
 | cons r rr =>
  cases rr with
  | cons r' rr =>
   cases rr with
   | cons Vv rr =>
    cases rr
    obtain⟨t,rfl⟩:=r
    obtain⟨t',rfl⟩:=r'
    obtain⟨Mj,rfl⟩:=Vv
    have hk:k≠0:=hb.2.2.2.2.2.2
    refine call_range_3 hk ?_ (.inl (PyProof.noPylong_small (by lia)))
    refine arq (IsRange.new ..) (Vt hb) ?_
    have I2:Inv X pins σ H1 { s1 with heap:=s1.heap.push { cls:=.type "range",data:=.fields #[.int i t,.int j t',.int k Mj] },toks:=s1.toks }:=I1.kept fun b o e=>ak5 _ e
    refine⟨_,[_],_,_,H1,rfl,I2.kept (t':=s1.toks) fun b o e=>ak5 _ e,Vs _ i k (jX i j k),?_,fun b hb=>?_,q⟩
    ·have e1:i+((0:Nat):Int) * k=i:=by simp
     have e2:((jX i j k:Nat):Int)-((0:Nat):Int)=amf i j k:=by
      have:=Mi i j k hk
      unfold jX;lia
     show ara _ _ (i+((0:Nat):Int) * k) (((jX i j k:Nat):Int)-((0:Nat):Int)) k
     rw[e1,e2]
     exact aln _ rfl
    ·have e:b=(s1.heap.push { cls:=.type "range",data:=.fields #[.int i t,.int j t',.int k Mj] }).objs.size:=by simpa using hb
     subst e
     exact I2.fL (alm _) (I2.ao.fresh (alm _))
section
variable {g:TG} {tb:TS} {D:Ends} {σ:L2.St} {H:Hp} {lo st:Int} {n:Nat}
theorem Vw {ta:TA}:ix (yM ta) g tb D σ H=ta σ H (fun vs H1=>∃ i j:Int,vs=[.int i,.int j]/\(-(2 ^ 62)<=i/\i<2 ^ 62/\-(2 ^ 62)<=j/\j<2 ^ 62)/\FJ (gN i (j-i).toNat) g tb D σ H1):=rfl
theorem Vx {ta:TA}:ix (zZ ta) g tb D σ H=ta σ H (fun vs H1=>∃ i j c:Int,vs=[.int i,.int j,.int c]/\(-1000000<=i/\i<=1000000/\-1000000<=j/\j<=1000000/\-1000000<=c/\c<=1000000/\c≠0)/\FJ (vS i c (jX i j c)) g tb D σ H1):=rfl
theorem Vy (Pv:Nat->L2.St->Hp->Prop) (h0:Pv 0 σ H)
 (hs:∀ i σ H,i<n->Pv i σ H->g (.int (lo+(i:Int) * st)) σ H fun σ2 H2=>tb { D with nx:=Pv (i+1),ct:=Pv (i+1),bk:=D.nx } σ2 H2) (hd:∀ σ H,Pv n σ H->D.nx σ H):FJ (vS lo st n) g tb D σ H:=by
 refine⟨fun i m σ H=>m=n-i/\i<=n/\Pv i σ H,⟨n,by simp,alv _,h0⟩,?_⟩
 rintro i m σ H ⟨rfl,hi,p⟩
 by_cases ba:i<n
 ·refine .inr ⟨ba,Pv (i+1),fun σ' H' p'=>⟨n-(i+1),by lia,rfl,ba,p'⟩,fun x H' y=>?_⟩
  obtain⟨e,y⟩:=y
  subst e y
  exact hs i σ _ ba p
 ·have e:i=n:=by lia
  subst e
  exact .inl ⟨alm _,hd σ H p⟩
end
end Gz
namespace Gz
open PySem PySem.Spec PyProof.Rows L2
local macro_rules | `(tactic| walk_at "om") => `(tactic| ((try simp only [PySem.Addr] at *); lia))
section
variable {X:Cx} {pins:List (ala × Obj)} {σ:L2.St} {H:Hp} {s:ak7} {h':amH}
theorem Ml {ch:List ala} (I:Inv X pins σ H s) (k:∀ b o,b∉ch->s.heap.get? b=some o->h'.get? b=some o) (hf:∀ b∈ch,cW X pins H b) {H':Hp} (up:∀ b u,H b=some u->H' b=some u):∀ b u,H b=some u->bD X.prog X.w H' h' b u:=by
 have jK:∀ b u,H b=some u->b∉ch:=fun b u e z=>by rw[(hf b z).1] at e;cases e
 intro b u e
 refine (I.ao b u e).fI (fun c v hc q=>k c v ?_ q) (fun c q=>up c _ q) fun c xs q=>up c _ q
 rcases hc with z|z
 ·rw[z];exact jK b u e
 ·exact jK c _ z
theorem Mm {t':Nat} {ch:List ala} (I:Inv X pins σ H s) (k:∀ b o,b∉ch->s.heap.get? b=some o->h'.get? b=some o) (hf:∀ b∈ch,cW X pins H b):Inv X pins σ H { s with heap:=h',toks:=t' }:=by
 refine I.step (g':=s.gens) (d':=s.drawn) (ch:=ch) (fun b hb=>?_) (fun b o _ _ hc e _=>k b o hc e) (fun b o _ _ hc e _=>⟨o.slots,k b o hc e⟩) (fun _ _ _ _ n=>n)
  (fun b o hc e=>⟨o,k b o hc e⟩) (fun _ _ e=>e) (fun _ _ _ e=>e) (fun b ps e=>⟨#[],by rw[e];simp⟩) (fun m hm=>?_) (fun b u e=>Ml I k hf (fun _ _ q=>q) b u e) I.bare
 ·obtain⟨_,d1,d2,d3,d4,d5⟩:=hf b hb
  exact⟨d3,d1,d4,d5⟩
 ·obtain⟨o,es,ep,ho,r⟩:=hm
  exact⟨o,es,ep,k _ o (fun z=>(hf _ z).2.1 rfl) ho,r⟩
theorem Mn {t':Nat} {ch:List ala} {T:ala} {o:HO} (I:Inv X pins σ H s) (k:∀ b o,b∉ch->s.heap.get? b=some o->h'.get? b=some o) (hf:∀ b∈ch,cW X pins H b) (hT:s.heap.objs.size<=T)
 (new:bD X.prog X.w (upd H T o) h' T o):Inv X pins σ (upd H T o) { s with heap:=h',toks:=t' }:=by
 have hn:=I.ao.fresh hT
 have neT:∀ b u,s.heap.get? b=some u->b≠T:=fun b u e=>alA (alC (alb e) hT)
 have e9:∀ b u,H b=some u->b≠T:=fun b u e=>gL e hn
 have up:∀ b u,H b=some u->upd H T o b=some u:=fun b u e=>by rw[aH (e9 b u e)];exact e
 refine I.step (g':=s.gens) (d':=s.drawn) (ch:=ch) (fun b hb=>?_) (fun b o _ _ hc e _=>k b o hc e) (fun b o _ _ hc e _=>⟨o.slots,k b o hc e⟩) (fun b u _ e n=>by rw[aH (neT b u e)];exact n)
  (fun b o hc e=>⟨o,k b o hc e⟩) (fun b xs e=>up b _ e) (fun b _ _ e=>up b _ e) (fun b ps e=>⟨#[],by rw[up b _ e];simp⟩) (fun m hm=>?_) (fun b u e=>?_) I.bare
 ·obtain⟨_,d1,d2,d3,d4,d5⟩:=hf b hb
  exact⟨d3,d1,d4,d5⟩
 ·obtain⟨o,es,ep,ho,r⟩:=hm
  exact⟨o,es,ep,k _ o (fun z=>(hf _ z).2.1 rfl) ho,r⟩
 ·by_cases hb:b=T
  ·subst hb;rw[au] at e;cases e;exact new
  ·rw[aH hb] at e
   exact Ml I k hf up b u e
end
noncomputable def vT (K:ak2) (a:ala) (n:Nat):It :=
 ⟨fun i H=>∃ xs x,ah K H a xs/\xs.length=n/\xs.reverse[i]?=some x,fun i H x H'=>H'=H/\∀ xs,ah K H a xs->xs.length=n->xs.reverse[i]?=some x,fun i _=>i=n⟩
theorem Vz {P:alr} {w:alS} {K:ak2} {tg:am7} (a it:ala) (n:Nat):Turn P w K tg (vT K a n) [it] it (fun i h=>i<=n/\h.IsRevIter it a ((n:Int)-1-(i:Nat))) where
 mem:=by simp
 obj:=fun i h st b hb=>by
  have e:b=it:=by simpa using hb
  subst e
  obtain⟨_,o,e,c,d⟩:=st
  exact⟨o,e,fun v z=>by rw[d] at z;cases z⟩
 keep:=fun i h h' st k=>⟨st.1,st.2.at fun o e=>k it (by simp) o e⟩
 item:=by
  intro X hP hw hK hc i pins s σ H E I hf st hg
  subst hP hw hK
  obtain⟨xs,x,hq,hn,hx⟩:=hg
  obtain⟨ai,rv,p,hz⟩:=I.list hq
  have hl:=rv.length
  have hi:i<n:=by
   have:=(alj.mp hx).1
   rw[amy] at this;lia
  have dD:xs[n-1-i]?=some x:=by
   rw[anv (by lia),hn] at hx;exact hx
  obtain⟨u,hu,ru⟩:=rv.get dD
  obtain⟨f0,f1,f2,f3,f4,f5⟩:=hf it (by simp)
  have b0:=st.2
  rw[show (n:Int)-1-(i:Nat)=((n-1-i:Nat):Int) by lia] at b0
  refine wpAny_pyNext_rev_item b0 p.isList (x:=u) (by simpa using hu) fun h' b0 sb=>?_
  have I1:Inv X pins σ H { s with heap:=h' }:=I.turned (t':=s.toks) (fun b o hb e=>(sb.2 b hb).trans e) f0 f1 f3 f4 f5
  obtain⟨o,e,c,d⟩:=id b0
  rw[show ((n-1-i:Nat):Int)-1=(n:Int)-1-((i+1:Nat):Int) by lia] at b0
  exact⟨u,rfl,n4 (s:={ s with heap:=h' }) e c d (by decide) ⟨x,H,I1,ru,⟨rfl,fun ys hy _=>by rw[I.rP hy hq];exact hx⟩,⟨by lia,b0⟩,fun b hb=>(hf b hb).1⟩⟩
 done:=by
  intro X hP hw hK hc i pins s σ H E I hf st hg
  subst hP hw hK
  have VA:i=n:=hg
  subst VA
  obtain⟨f0,f1,f2,f3,f4,f5⟩:=hf it (by simp)
  have b0:=st.2
  rw[show (i:Int)-1-(i:Nat) = -1 by lia] at b0
  exact wpAny_pyNext_rev_end (I.ok.hd hc) b0 fun h' eb=>⟨rfl,I.turned (t':=s.toks) (fun b o hb e=>eb b o hb e) f0 f1 f3 f4 f5⟩
 self:=fun _ _ _ _ _ st h=>aqX st.2 h
noncomputable def z4 (K:ak2) (ta:TA):TI:=fun σ H R=>ta σ H fun vs H1=>∃ a xs,vs=[.ref a]/\ah K H1 a xs/\R (vT K a xs.length) H1
theorem VB {X:Cx} {tg e:am7} {ta:TA} {p pos:Pos} (hg:Gl X "reversed") (hm:X.mg "reversed" = none) (ha:PA X [e] ta) (hs:alM [e] X.env=[(false,eval e X.env)]:=by rfl):PI X tg (.Call (.Name "reversed" p) [e] [] pos) (z4 X.K ta):=by
 intro pins s σ H R I h
 refine atl (eW I hg hm Uy (alW (aC (ha pos pins s σ H _ I h) fun us s1 ⟨vs,H1,I1,r1,q1⟩=>?_) hs rfl))
 obtain⟨a,xs,rfl,hq,q⟩:=q1
 obtain⟨u,rfl,ru⟩:=vals1 r1
 cases ru
 obtain⟨ai,rv,p,hz⟩:=I1.list hq
 refine call_reversed_list p.isList ?_
 have hl:=rv.length
 refine aqX (i:=(ai.toArray.size:Int)-1) (l:=a) ⟨_,aln _ rfl,rfl,rfl⟩ ?_
 refine⟨s1.heap.objs.size,[s1.heap.objs.size],_,_,H1,rfl,I1.kept (t':=s1.toks) fun b o e=>ak5 _ e,Vz a _ xs.length,⟨alv _,_,aln _ rfl,rfl,?_⟩,fun b hb=>?_,q⟩
 ·rw[alo,<- hl];simp;rfl
 ·have e:b=s1.heap.objs.size:=by simpa using hb
  subst e
  exact I1.fL (alm _) (I1.ao.fresh (alm _))
noncomputable def vU (K:ak2) (a:ala):It :=
 ⟨fun i H=>∃ xs x,ah K H a xs/\xs[i]?=some x,fun i H v H'=>∃ (p:ala) (x:V),v = .ref p/\H p=none/\H'=upd H p (.tup [.int i,x])/\∀ xs,ah K H a xs->xs[i]?=some x,fun i H=>∃ xs,ah K H a xs/\xs.length<=i⟩
theorem z5:2<=alI:=by decide
theorem VC {P:alr} {w:alS} {K:ak2} {es:List am7} {k:Nat} {tp:Pos} (a e it:ala) (Mo:e≠it):Turn P w K (.Tuple es k tp) (vU K a) [e,it] e (fun i h=>(∃ old,IsEnum h e it (i:Nat) old)/\h.IsListIter it a i) where
 mem:=by simp
 obj:=fun i h st b hb=>by
  obtain⟨⟨old,he⟩,o,ho,c,d⟩:=st
  have bE:b=e∨b=it:=by simpa using hb
  rcases bE with rfl|rfl
  ·exact⟨_,he,fun v z=>by
    have z':Data.fields _=Data.cell v:=z
    cases z'⟩
  ·exact⟨o,ho,fun v z=>by rw[d] at z;cases z⟩
 keep:=fun i h h' st kk=>by
  obtain⟨⟨old,he⟩,hi⟩:=st
  exact⟨⟨old,kk e (by simp) _ he⟩,hi.at fun o e=>kk it (by simp) o e⟩
 item:=by
  intro X hP hw hK hc i pins s σ H E I hf st hg
  subst hP hw hK
  obtain⟨xs,x,hq,hx⟩:=hg
  obtain⟨⟨old,he⟩,hit⟩:=st
  obtain⟨ai,rv,p,hz⟩:=I.list hq
  obtain⟨u,hu,ru⟩:=rv.get hx
  refine aqn he hit p.isList (x:=u) (by simpa using hu) Mo fun h1 ho VD hT hsz hk=>?_
  refine⟨_,rfl,wpAny_letOwnedTupleGo_enum ho fun h2 Mp cN=>?_⟩
  have z6:Heap.SameBut e h1 h2:=cN
  have neT:s.heap.objs.size≠e:=amj (alb he)
  have up:∀ b o,b∉[e,it]->s.heap.get? b=some o->h2.get? b=some o:=fun b o hb q=>by
   have bE:b≠e/\b≠it:=by simpa using hb
   exact z6.extBut b o bE.1 (hk b o bE.1 bE.2 q)
  have hn:H s.heap.objs.size=none:=I.ao.fresh (alm _)
  refine⟨.ref s.heap.objs.size,upd H s.heap.objs.size (.tup [.int i,x]),Mn (s:=s) (h':=h2) (t':=s.toks+1) I up hf (alm _) ⟨z5,[.int i s.toks,u],.cons ⟨_,rfl⟩ (.cons ru .nil),?_⟩,rfl,⟨_,x,rfl,hn,rfl,fun ys hy=>by rw[I.rP hy hq];exact hx⟩,⟨⟨u,?_⟩,?_⟩,fun b hb=>?_⟩
  ·have:=z6.extBut _ _ neT hT
   exact⟨_,this,rfl,_,rfl⟩
  ·have:((i:Int)+1)=((i+1:Nat):Int):=by lia
   rw[<- this];exact Mp
  ·exact VD.at fun o q=>z6.extBut _ _ (al5 Mo) q
  ·rw[aH]
   ·exact (hf b hb).1
   ·have bE:b=e∨b=it:=by simpa using hb
    rcases bE with rfl|rfl
    ·exact al5 neT
    ·obtain⟨o,q,_⟩:=hit
     exact alA (alb q)
 done:=by
  intro X hP hw hK hc i pins s σ H E I hf st hg
  subst hP hw hK
  obtain⟨xs,hq,hx⟩:=hg
  obtain⟨⟨old,he⟩,hit⟩:=st
  obtain⟨ai,rv,p,hz⟩:=I.list hq
  have hl:=rv.length
  refine aqG (I.ok.hd hc) he hit p.isList (by simp;lia) fun h' eb=>⟨rfl,Mm (t':=s.toks) I (fun b o hb q=>?_) hf⟩
  have bE:b≠e/\b≠it:=by simpa using hb
  exact eb b o bE.2 q
 self:=fun _ i s Q E st h=>by
  obtain⟨⟨old,he⟩,_⟩:=st
  exact apX he h
noncomputable def z7 (K:ak2) (ta:TA):TI:=fun σ H R=>ta σ H fun vs H1=>∃ a,vs=[.ref a]/\(∃ xs,ah K H1 a xs)/\R (vU K a) H1
theorem z9 {X:Cx} {es:List am7} {k:Nat} {tp:Pos} {e:am7} {ta:TA} {p pos:Pos} (hg:Gl X "enumerate") (hm:X.mg "enumerate" = none) (ha:PA X [e] ta) (hs:alM [e] X.env=[(false,eval e X.env)]:=by rfl):PI X (.Tuple es k tp) (.Call (.Name "enumerate" p) [e] [] pos) (z7 X.K ta):=by
 intro pins s σ H R I h
 refine atl (eW I hg hm Lw (alW (aC (ha pos pins s σ H _ I h) fun us s1 ⟨vs,H1,I1,r1,q1⟩=>?_) hs rfl))
 obtain⟨a,rfl,⟨xs,hq⟩,q⟩:=q1
 obtain⟨u,rfl,ru⟩:=vals1 r1
 cases ru
 obtain⟨ai,rv,p,hz⟩:=I1.list hq
 refine arf p.isList fun h' he hit hsz hk=>?_
 refine apX he ?_
 have I2:Inv X pins σ H1 { s1 with heap:=h' }:=I1.kept (t':=s1.toks) hk
 refine⟨s1.heap.objs.size+1,[s1.heap.objs.size+1,s1.heap.objs.size],_,_,H1,rfl,I2,VC a _ _ (by walk_at "om"),⟨⟨.none,he⟩,hit⟩,fun b hb=>?_,q⟩
 have bE:b=s1.heap.objs.size+1∨b=s1.heap.objs.size:=by simpa using hb
 rcases bE with rfl|rfl
 ·exact I1.fL (aoK _) (I1.ao.fresh (aoK _))
 ·exact I1.fL (alm _) (I1.ao.fresh (alm _))
noncomputable def vV (K:ak2) (a b:ala):It :=
 ⟨fun i H=>∃ xs ys x y,ah K H a xs/\ah K H b ys/\xs[i]?=some x/\ys[i]?=some y,fun i H v H'=>∃ (p:ala) (x y:V),v = .ref p/\H p=none/\H'=upd H p (.tup [x,y])/\(∀ xs,ah K H a xs->xs[i]?=some x)/\∀ ys,ah K H b ys->ys[i]?=some y,
  fun i H=>∃ xs ys,ah K H a xs/\ah K H b ys/\(xs.length<=i∨ys.length<=i)⟩
theorem VE {P:alr} {w:alS} {K:ak2} {es:List am7} {k:Nat} {tp:Pos} (a b z TI TO i1 i2:ala) (D:ZipApart z TI TO i1 i2 a b):Turn P w K (.Tuple es k tp) (vV K a b) [z,TI,TO,i1,i2] z
 (fun i h=>IsZip h z TI TO .none/\IsPair h TI (.ref i1) (.ref i2)/\(∃ a b,IsPair h TO a b)/\h.IsListIter i1 a i/\h.IsListIter i2 b i) where
 mem:=by simp
 obj:=fun i h st c hc=>by
  obtain⟨hz,gX,⟨ta,tb,iC⟩,⟨o1,h1,c1,d1⟩,⟨o2,h2,c2,d2⟩⟩:=st
  have i0:c=z∨c=TI∨c=TO∨c=i1∨c=i2:=by simpa using hc
  rcases i0 with rfl|rfl|rfl|rfl|rfl
  ·exact⟨_,hz,fun v q=>by
    have q':Data.fields _=Data.cell v:=q
    cases q'⟩
  ·exact⟨_,gX,fun v q=>by
    have q':Data.seq _ _=Data.cell v:=q
    cases q'⟩
  ·exact⟨_,iC,fun v q=>by
    have q':Data.seq _ _=Data.cell v:=q
    cases q'⟩
  ·exact⟨o1,h1,fun v q=>by rw[d1] at q;cases q⟩
  ·exact⟨o2,h2,fun v q=>by rw[d2] at q;cases q⟩
 keep:=fun i h h' st kk=>by
  obtain⟨hz,gX,⟨ta,tb,iC⟩,h1,h2⟩:=st
  exact⟨kk z (by simp) _ hz,kk TI (by simp) _ gX,⟨ta,tb,kk TO (by simp) _ iC⟩,h1.at fun o e=>kk i1 (by simp) o e,h2.at fun o e=>kk i2 (by simp) o e⟩
 item:=by
  intro X hP hw hK hc i pins s σ H E I hf st hg
  subst hP hw hK
  obtain⟨xs,ys,x,y,hqx,hqy,hx,hy⟩:=hg
  obtain⟨hz,gX,⟨ta,tb,iC⟩,h1,h2⟩:=st
  obtain⟨ai,rv,p1,_⟩:=I.list hqx
  obtain⟨jts,vW,p2,_⟩:=I.list hqy
  obtain⟨u,hu,ru⟩:=rv.get hx
  obtain⟨v,hv,VF⟩:=vW.get hy
  refine wpAny_pyNext_zip_item D hz gX iC h1 h2 p1.isList p2.isList (x:=u) (y:=v) (by simpa using hu) (by simpa using hv) fun h' z1 t1 l1 l2 pT hsz hk=>?_
  refine⟨_,rfl,wpAny_letOwnedTupleGo_zip z1 fun h3 z3 VG=>?_⟩
  have oF:Heap.SameBut z h' h3:=VG
  have neT:s.heap.objs.size≠z:=amj (alb hz)
  have up:∀ b o,b∉[z,TI,TO,i1,i2]->s.heap.get? b=some o->h3.get? b=some o:=fun b o hb q=>by
   have bE:b≠z/\b≠TI/\b≠TO/\b≠i1/\b≠i2:=by simpa using hb
   exact oF.extBut b o bE.1 (hk b o bE.1 bE.2.2.1 bE.2.2.2.1 bE.2.2.2.2 q)
  have hn:H s.heap.objs.size=none:=I.ao.fresh (alm _)
  refine⟨.ref s.heap.objs.size,upd H s.heap.objs.size (.tup [x,y]),Mn (s:=s) (h':=h3) (t':=s.toks) I up hf (alm _) ⟨z5,[u,v],.cons ru (.cons VF .nil),?_⟩,rfl,⟨_,x,y,rfl,hn,rfl,fun zs Aa=>by rw[I.rP Aa hqx];exact hx,fun zs Aa=>by rw[I.rP Aa hqy];exact hy⟩,
   ⟨z3,oF.extBut _ _ D.TIz (hk _ _ D.TIz D.TITO D.TIi1 D.TIi2 gX),⟨_,_,oF.extBut _ _ D.TOz t1⟩,l1.at fun o q=>oF.extBut _ _ D.i1z q,l2.at fun o q=>oF.extBut _ _ D.i2z q⟩,fun b hb=>?_⟩
  ·have:=oF.extBut _ _ neT pT
   exact⟨_,this,rfl,_,rfl⟩
  ·rw[aH]
   ·exact (hf b hb).1
   ·have bE:b=z∨b=TI∨b=TO∨b=i1∨b=i2:=by simpa using hb
    rcases bE with rfl|rfl|rfl|rfl|rfl
    ·exact al5 neT
    ·exact alA (alb gX)
    ·exact alA (alb iC)
    ·obtain⟨o,q,_⟩:=h1
     exact alA (alb q)
    ·obtain⟨o,q,_⟩:=h2
     exact alA (alb q)
 done:=by
  intro X hP hw hK hc i pins s σ H E I hf st hg
  subst hP hw hK
  obtain⟨xs,ys,hqx,hqy,hx⟩:=hg
  obtain⟨hz,gX,⟨ta,tb,iC⟩,h1,h2⟩:=st
  obtain⟨ai,rv,p1,_⟩:=I.list hqx
  obtain⟨jts,vW,p2,_⟩:=I.list hqy
  have l1:=rv.length
  have l2:=vW.length
  refine wpAny_pyNext_zip_end (I.ok.hd hc) D hz gX iC h1 h2 p1.isList p2.isList (hx.imp (fun q=>by simp;lia) fun q=>by simp;lia) fun h' hk=>⟨rfl,Mm (t':=s.toks) I (fun b o hb q=>?_) hf⟩
  have bE:b≠z/\b≠TI/\b≠TO/\b≠i1/\b≠i2:=by simpa using hb
  exact hk b o bE.1 bE.2.2.1 bE.2.2.2.1 bE.2.2.2.2 q
 self:=fun _ i s Q E st h=>ar4 st.1 h
noncomputable def Ab (K:ak2) (ta:TA):TI:=fun σ H R=>ta σ H fun vs H1=>∃ a b,vs=[.ref a,.ref b]/\(∃ xs,ah K H1 a xs)/\(∃ ys,ah K H1 b ys)/\R (vV K a b) H1
theorem VH {X:Cx} {es:List am7} {k:Nat} {tp:Pos} {e f:am7} {ta:TA} {p pos:Pos} (hg:Gl X "zip") (hm:X.mg "zip" = none) (ha:PA X [e,f] ta) (hs:alM [e,f] X.env=(false,eval e X.env)::alM [f] X.env:=by rfl) (cN:alM [f] X.env=[(false,eval f X.env)]:=by rfl):PI X (.Tuple es k tp) (.Call (.Name "zip" p) [e,f] [] pos) (Ab X.K ta):=by
 intro pins s σ H R I h
 refine atl (eW I hg hm Ux (alW (aC (ha pos pins s σ H _ I h) fun us s1 ⟨vs,H1,I1,r1,q1⟩=>?_) hs (by rw[cN];rfl)))
 obtain⟨a,b,rfl,⟨xs,hqx⟩,⟨ys,hqy⟩,q⟩:=q1
 obtain⟨u,v,rfl,ru,VI⟩:=vals2 r1
 cases ru
 cases VI
 obtain⟨ai,rv,p1,_⟩:=I1.list hqx
 obtain⟨jts,vW,p2,_⟩:=I1.list hqy
 have a1:a<s1.heap.objs.size:=by obtain⟨_,e,_⟩:=p1.isList;exact alb e
 have a2:b<s1.heap.objs.size:=by obtain⟨_,e,_⟩:=p2.isList;exact alb e
 refine call_zip_2 p1.isList p2.isList fun h' hz gX iC h1 h2 hsz hk=>?_
 refine ar4 hz ?_
 have I2:Inv X pins σ H1 { s1 with heap:=h' }:=I1.kept (t':=s1.toks) hk
 refine⟨s1.heap.objs.size+4,[s1.heap.objs.size+4,s1.heap.objs.size+2,s1.heap.objs.size+3,s1.heap.objs.size,s1.heap.objs.size+1],_,_,H1,rfl,I2,VE a b _ _ _ _ _ (zipApart_new a1 a2),⟨hz,gX,⟨_,_,iC⟩,h1,h2⟩,fun c hc=>?_,q⟩
 have i0:s1.heap.objs.size<=c:=by
  simp only[alk,ame,or_false] at hc
  walk_at "om"
 exact I1.fL i0 (I1.ao.fresh i0)
section
variable {X:Cx}
end
section
variable {K:ak2} {g:TG} {tb:TS} {D:Ends} {σ:L2.St} {H:Hp} {a b:ala} {xs ys:List V}
theorem VJ {ta:TA}:ix (z4 K ta) g tb D σ H=ta σ H (fun vs H1=>∃ a xs,vs=[.ref a]/\ah K H1 a xs/\FJ (vT K a xs.length) g tb D σ H1):=rfl
theorem VL {ta:TA}:ix (z7 K ta) g tb D σ H=ta σ H (fun vs H1=>∃ a,vs=[.ref a]/\(∃ xs,ah K H1 a xs)/\FJ (vU K a) g tb D σ H1):=rfl
theorem VM {ta:TA}:ix (Ab K ta) g tb D σ H=ta σ H (fun vs H1=>∃ a b,vs=[.ref a,.ref b]/\(∃ xs,ah K H1 a xs)/\(∃ ys,ah K H1 b ys)/\FJ (vV K a b) g tb D σ H1):=rfl
theorem Ac (Pv:Nat->L2.St->Hp->Prop) (h0:Pv 0 σ H) (hl:∀ i σ H,i<=xs.length->Pv i σ H->ah K H a xs)
 (hs:∀ i x σ H p,xs[i]?=some x->Pv i σ H->H p=none->g (.ref p) σ (upd H p (.tup [.int i,x])) fun σ2 H2=>tb { D with nx:=Pv (i+1),ct:=Pv (i+1),bk:=D.nx } σ2 H2) (hd:∀ σ H,Pv xs.length σ H->D.nx σ H):FJ (vU K a) g tb D σ H:=by
 refine⟨fun i m σ H=>m=xs.length-i/\i<=xs.length/\Pv i σ H,⟨_,rfl,alv _,h0⟩,?_⟩
 rintro i m σ H ⟨rfl,hi,p⟩
 have q:=hl i σ H hi p
 by_cases ba:i<xs.length
 ·refine .inr ⟨⟨xs,xs[i],q,by simp[ba]⟩,Pv (i+1),fun σ' H' p'=>⟨xs.length-(i+1),by lia,rfl,ba,p'⟩,fun v H' y=>?_⟩
  obtain⟨w,x,rfl,hw,rfl,y⟩:=y
  exact hs i x σ _ w (y xs q) p hw
 ·have e:i=xs.length:=by lia
  subst e
  exact .inl ⟨⟨xs,q,alm _⟩,hd σ H p⟩
theorem VN (Pv:Nat->L2.St->Hp->Prop) (h0:Pv 0 σ H) (hl:∀ i σ H,Pv i σ H->ah K H a xs/\ah K H b ys)
 (hs:∀ i x y σ H p,xs[i]?=some x->ys[i]?=some y->Pv i σ H->H p=none->g (.ref p) σ (upd H p (.tup [x,y])) fun σ2 H2=>tb { D with nx:=Pv (i+1),ct:=Pv (i+1),bk:=D.nx } σ2 H2) (hd:∀ σ H,Pv (min xs.length ys.length) σ H->D.nx σ H):FJ (vV K a b) g tb D σ H:=by
 refine⟨fun i m σ H=>m=min xs.length ys.length-i/\i<=min xs.length ys.length/\Pv i σ H,⟨_,rfl,alv _,h0⟩,?_⟩
 rintro i m σ H ⟨rfl,hi,p⟩
 have q:=hl i σ H p
 by_cases ba:i<min xs.length ys.length
 ·have h1:i<xs.length:=by lia
  have h2:i<ys.length:=by lia
  refine .inr ⟨⟨xs,ys,xs[i],ys[i],q.1,q.2,by simp[h1],by simp[h2]⟩,Pv (i+1),fun σ' H' p'=>⟨min xs.length ys.length-(i+1),by lia,rfl,ba,p'⟩,fun v H' y=>?_⟩
  obtain⟨w,x,y',rfl,hw,rfl,e1,e2⟩:=y
  exact hs i x y' σ _ w (e1 xs q.1) (e2 ys q.2) p hw
 ·have e:i=min xs.length ys.length:=by lia
  refine .inl ⟨⟨xs,ys,q.1,q.2,by lia⟩,hd σ H (e ▸ p)⟩
end
theorem jY {K:ak2} {i j:Nat} {p:ala} {x y:V} {σ:L2.St} {H:Hp} {Q:L2.St->Hp->Prop} (h:aj K H p [x,y]) (q:Q ((σ.set i (some x)).set j (some y)) H):kF K 2 (dz (de i) (dz (de j) jM)) (.ref p) σ H Q :=
 ⟨p,[x,y],rfl,h,rfl,x,[y],rfl,y,[],rfl,rfl,q⟩
end Gz
namespace Gz
open PySem PySem.Spec PyProof.Rows L2
local macro_rules | `(tactic| walk_at "om") => `(tactic| ((try simp only [PySem.Addr] at *); lia))
structure sN (X:Cx) (own:List Str) (scope:apo) (cl:List (Str × ala)) (fr:List Nat) (ys:List Str):Prop where
 clos:closureFor scope X.env=pure cl
 nocell:(scope.names.all fun p=>p.2 != .cell)=true
 kind:scope.kind = .function
 names:(scope.names.all fun p=>p.2 != .local || scope.names.lookup p.1 == some .local)=true
 kinds:((relabel scope X.env).names.all fun p=>(p.2 != .cell && p.2 != .free) || (cl.lookup p.1).isSome)=true
 cls:kW X cl
 bf:jh X scope cl fr ys
 kfr:(ys.all fun y=>(relabel scope X.env).names.lookup y == some .cell)=true
noncomputable def vX (k:Nat) (J:It) (g:TG) (ρ:L2.St) (tt:TT) (te:TE) (H:Hp) (Q:VK):Prop:=∃ W:Nat->Nat->List V->Hp->Prop,(∃ m,W 0 m [] H)/\∀ i m ys H,W i m ys H ->
 (J.stop i H/\ys.length<=alI/\∀ l,H l=none->Q (.ref l) (upd H l (.lst ys)))∨(J.go i H/\ys.length<alI/\∃ N:List V->Hp->Prop,(∀ zs H',N zs H'->∃ m',m'<m/\W (i+1) m' zs H') /\
  ∀ os:List (Option V),os.length=k->∀ x H',J.yld i H x H'->g x (os++ρ) H' fun σ2 H2=>∃ og,og.length=k/\σ2=og++ρ/\tt σ2 H2 fun b H1=>if b=true then te σ2 H1 fun y H2=>N (ys++[y]) H2 else N ys H1)
noncomputable def Mq (k:Nat) (wi:TI) (g:TG) (fr:List Nat) (tt:TT) (te:TE):TE:=fun σ H Q=>wi σ H fun J H1=>vX k J g (fr.map fun j=>(σ[j]?).join) tt te H1 Q
theorem VO {prog:alr} {w:alS} {A:alY} {s:ak7} {R:apQ->ak7->Prop} {elt target iter:am7} {ifs:List am7} {scope:apo} {pos:Pos} {it acc:ak3} {env:Env} (I:Nat->ak7->Prop)
 (turn:∀ n s,I n s->alu (model prog w) A (anu it) (fun r s₁=>match r with
   | none=>R (.ok .next) s₁
   | some v=>alu (model prog w) A (anV target it v) (fun _ Mr=>alu (model prog w) A (assign target env v) (fun _ s₂ =>
    alu (model prog w) A (forIn ifs true fun c r=>if r=true then do let ok <- asN c env (eval c env);pure (an1 ok) else pure (an1 r)) (fun ok s₃ =>
     if ok=true then alu (model prog w) A (eval elt env) (fun x s₄ =>
      alu (model prog w) A (call (.builtin "list.append") [acc,x]) (fun _ s₅=>∃ m,m<n/\I m s₅) (asy (model prog w) A env fun e s'=>R (.error e) s') s₄) (asy (model prog w) A env fun e s'=>R (.error e) s') s₃
     else ∃ m,m<n/\I m s₃) (asy (model prog w) A env fun e s'=>R (.error e) s') s₂) (asy (model prog w) A env fun e s'=>R (.error e) s') Mr) (asy (model prog w) A env fun e s'=>R (.error e) s') s₁) (asy (model prog w) A env fun e s'=>R (.error e) s') s)
 (n:Nat) (h:I n s) :
 anR (model prog w) A (.compLoop (.ListComp elt [⟨target,iter,ifs,0⟩] scope pos) 0 it acc env) R s:=by
 refine codeAny_loop rfl I (fun n s hI=>?_) n h
 show alu _ A ((compTurn (.ListComp elt [⟨target,iter,ifs,0⟩] scope pos) 0 it acc env).onRaise (fun x=>do noteFrame x env;theTreesLotGoes x)) _ _ s
 refine wpAny_noted ?_
 rw[compTurn_list]
 refine ak1 (aro (ak1 (amc (turn n s hI) (fun r s₁ h₁=>?_) fun _ _ h'=>h')))
 cases r with
 | none=>exact ak6 h₁
 | some v =>
  refine ak1 (amc h₁ (fun _ Mr VP=>?_) fun _ _ h'=>h')
  refine ak1 (amc VP (fun _ s₂ h₂=>ak1 (amc h₂ (fun ok s₃ h₃=>?_) fun _ _ h'=>h')) fun _ _ h'=>h')
  cases ok with
  | false=>exact ak6 ⟨rfl,h₃⟩
  | true =>
   exact ak1 (ak1 (amc h₃ (fun x s₄ h₄=>ak1 (amc h₄ (fun _ s₅ h₅=>ak6 (ak6 ⟨rfl,h₅⟩)) fun _ _ h'=>h')) fun _ _ h'=>h'))
section
variable {X:Cx} {pins:List (ala × Obj)} {σ:L2.St} {H2:Hp} {s2:ak7} {own:List Str} {tg:am7} {g:TG} {pos:Pos} {elt iter:am7} {ifs:List am7} {scope:apo} {cl:List (Str × ala)} {fr:List Nat} {ys:List Str} {tt:TT} {te:TE}
theorem VQ {C:ala} {ex:List ala} {pn:List (ala × Obj)} (S:sN X own scope cl fr ys) (I2:Inv X pins σ H2 s2) (f2:∀ b∈ex,cW X pins H2 b) (hC:s2.heap.objs.size<=C) (hex:∀ b∈ex,b<s2.heap.objs.size):(bG X (own++ys) scope cl C s2 H2 ex pn).Ok:=by
 refine⟨I2.ok.mod,S.kind,I2.ok.glob,I2.ok.blt,hC,fun a b c h1 h2=>?_,fun y hy=>?_,fun _ _ z=>(nomatch z),I2.ok.hd,I2.ok.frames,.inl rfl,fun b hb=>⟨?_,fun y c e z=>?_⟩,I2.bs,alp I2.ok.bsz I2.sz,fun b o e hb=>?_,fun b hb z=>?_,I2.stack,I2.rK⟩
 ·exact I2.ok.inj a b c (S.cls.get a c h1) (S.cls.get b c h2)
 ·have zI:(relabel scope X.env).names.lookup y=some .cell∨(relabel scope X.env).names.lookup y=some .free:=hy
  have q:(cl.lookup y).isSome=true:=by
   rcases zI with e|e
   ·simpa using vN S.kinds e
   ·simpa using vN S.kinds e
  exact amS.mp q
 ·exact alA (alC (hex b hb) hC)
 ·exact (f2 b hb).2.2.2.2.1 y c (S.cls.get y c e) z
 ·obtain⟨_,_,_,d,_,_⟩:=f2 b hb
  rcases d with d|d
  ·exact I2.ok.noex b o e d
  ·exact absurd (alC (alb e) (alp I2.ok.bsz d)) (amL _)
 ·obtain⟨_,d1,d2,_⟩:=f2 b hb
  rcases alk.mp (I2.ip b z) with q|q
  ·exact d1 q
  ·exact d2 q
theorem VR {J:It} {fp:List ala} {it:ala} {tn:Nat->amH->Prop} {E:ak3->ak7->Prop} {Q:VK} {RR:ak3->ala->apQ->ak7->Prop}
 (S:sN X own scope cl fr ys) (hc:X.calm=true) (hg:∀ (C:ala) (s:ak7) (H:Hp) (ex:List ala) (pn:List (ala × Obj)),PG (bG X (own++ys) scope cl C s H ex pn) tg g)
 (hb:∀ (C:ala) (s:ak7) (H:Hp) (ex:List ala) (pn:List (ala × Obj)),kX (bG X (own++ys) scope cl C s H ex pn) ifs tt/\PE (bG X (own++ys) scope cl C s H ex pn) elt te)
 (I2:Inv X pins σ H2 s2) (T:Turn X.prog X.w X.K tg J fp it tn) (eX:tn 0 s2.heap) (f2:∀ b∈fp,cW X pins H2 b)
 (h:vX own.length J g (fr.map fun j=>(σ[j]?).join) tt te H2 Q)
 (zJ:∀ D C s' H',Inv X pins σ H' s'->(∃ m,s'.heap.Ns C m)->cW X pins H' C->Q (.ref D) H'->RR (.ref D) C (.ok .next) s') :
 alu (model X.prog X.w) X.A (as0 []) (fun acc s3=>alu (model X.prog X.w) X.A (newFunctionEnv scope X.env.globals cl [] X.env.qual none .none (some X.env)) (fun sx s4 =>
  anR (model X.prog X.w) X.A (.compStart (.ListComp elt [⟨tg,iter,ifs,0⟩] scope pos) 0 (.ref it) acc { sx with scope:=relabel scope X.env }) (RR acc sx.locals) s4) E s3) E s2:=by
 obtain⟨W,⟨m0,w0⟩,turn⟩:=h
 refine amd (aqW (fun y hy=>by simpa using amA.mp S.nocell y hy) (fun y hy=>absurd hy (by simp)) (fun h1 gq eL=>?_) S.kind)
 dsimp only at gq eL ⊢
 generalize eP:s2.heap.push { cls:=.type "list",dict:=none,data:=.seq ([]:List ak3).toArray }=P2 at gq eL ⊢
 have sz:P2.objs.size=s2.heap.objs.size+1:=by rw[<- eP,anz]
 have fV:s2.heap.objs.size≠P2.objs.size:=by walk_at "om"
 have keep:∀ b o,s2.heap.get? b=some o->h1.get? b=some o:=fun b o e=>by
  have lt:=alb e
  exact eL.extBut b o (by walk_at "om") (ak5 _ (eP ▸ ak5 _ e))
 have hD:h1.get? s2.heap.objs.size=some { cls:=.type "list",data:=.seq ([]:List ak3).toArray 0 } :=
  eL.extBut _ _ fV (ak5 _ (eP ▸ aln _ rfl))
 have eZ:∀ b∈fp,b<s2.heap.objs.size:=fun b hb=>by
  obtain⟨o,e,_⟩:=T.obj 0 _ eX b hb
  exact alb e
 have sy:∀ b,s2.heap.objs.size<=b->b∉bf X.stack:=fun b hle z=>by
  rcases alk.mp (I2.ip b z) with q|q
  ·have:=I2.lt;walk_at "om"
  ·exact I2.yA hle q
 generalize eC:P2.objs.size=C at gq eL fV ⊢
 generalize eD:s2.heap.objs.size=D at fV hD eZ sy
 have kY:s2.heap.objs.size<=C:=by walk_at "om"
 have sA:s2.heap.objs.size<=D:=by walk_at "om"
 have ji:(bG X (own++ys) scope cl C s2 H2 fp (X.pn++pins)).Ok:=VQ S I2 f2 kY (fun b hb=>by have:=eZ b hb;walk_at "om")
 have sC:∀ p∈X.pn++pins,p.1≠C/\p.1≠D/\p.1∉bf X.stack/\∀ b∈fp,p.1≠b:=fun p hp=>by
  obtain⟨e,n,nL,nf,_⟩:=I2.pin p hp
  have lt:=alb e
  refine⟨by walk_at "om",by walk_at "om",fun z=>?_,fun b hb=>(f2 b hb).2.2.2.2.2 p hp⟩
  rcases alk.mp (I2.ip _ z) with q|q
  ·exact nL q
  ·exact nf q
 have I4:Inv (bG X (own++ys) scope cl C s2 H2 fp (X.pn++pins)) [] ((own.map fun _=>none)++fr.map fun j=>(σ[j]?).join) H2 { s2 with heap:=h1,toks:=s2.toks+([]:List (Str × ak3)).length }:=by
  refine⟨ji,rfl,I2.bare,Un.kept keep,⟨_,gq,fun i y v e1 e2 e3=>?_⟩,fun y c e=>?_,I2.ao.fresh kY,fun y c e=>I2.gj y c (S.cls.get y c e),fun p hp=>?_,I2.ao.kept keep,?_⟩
  ·by_cases hio:i<own.length
   ·rw[al7 (by simpa using hio)] at e2
    simp[hio] at e2
   ·rw[amk (by simp;lia)] at e2
    have sD:ys[i-own.length]?=some y:=by
     have:(own++ys)[i]?=some y:=e1
     rwa [amk (by lia)] at this
    rw[ak8] at e2
    obtain⟨j,c,hN,hσ,hk,zK,zL⟩:=S.bf.get (i-own.length) y v sD e2
    obtain⟨m,hm,hl⟩:=I2.loc
    obtain⟨u,ru,lu⟩:=hl j y v hN hσ (.inr (.inl hk))
    refine⟨u,ru,.inr ⟨.inl ?_,c,zK,?_⟩⟩
    ·have z:=amA.mp S.kfr y (alx sD)
     exact (by simpa using z:(relabel scope X.env).names.lookup y=some .cell)
    ·rcases lu with ⟨z,_⟩|⟨_,c',e',q'⟩
     ·rw[hk] at z;cases z
     ·rw[zL] at e';cases e'
      obtain⟨o,ho,hd⟩:=q'
      exact⟨o,keep _ _ ho,hd⟩
  ·obtain⟨v,o,ho,hd⟩:=I2.cell y c (S.cls.get y c e)
   exact⟨v,o,keep _ _ ho,hd⟩
  ·have cn:p∈X.pn++pins:=by
    have:p∈(X.pn++pins)++[]:=hp
    simpa using this
   obtain⟨e,n,_,_,d⟩:=I2.pin p cn
   obtain⟨p1,_,p3,_⟩:=sC p cn
   exact⟨keep _ _ e,n,p1,p3,d⟩
  ·show ((own.map fun _=>(none:Option V))++fr.map fun j=>(σ[j]?).join).length=(own++ys).length
   simp[S.bf.len]
 have sE:tn 0 h1:=T.keep 0 _ _ eX fun b _ o e=>keep b o e
 have kZ:∀ (H':Hp) (o:Obj),(∀ b∈fp,H' b=none)->∀ b∈fp,cW (bG X (own++ys) scope cl C s2 H2 fp (X.pn++pins)) [(D,o)] H' b:=fun H' o hn b hb=>by
  obtain⟨_,d1,d2,d3,d4,d5⟩:=f2 b hb
  have lt:=eZ b hb
  refine⟨hn b hb,?_,fun z=>?_,.inl hb,fun y c e=>d4 y c (S.cls.get y c e),fun p hp=>?_⟩
  ·show b≠C
   walk_at "om"
  ·rcases alk.mp (I2.ip b z) with q|q
   ·exact d1 q
   ·exact d2 q
  ·have cn:p∈(X.pn++pins)++[(D,o)]:=hp
   rcases alK.mp cn with z|z
   ·exact d5 p z
   ·have:p=(D,o):=by simpa using z
    subst this
    show D≠b
    walk_at "om"
 have loop:∀ s':ak7,s' = { s2 with heap:=h1,toks:=s2.toks+([]:List (Str × ak3)).length } ->
  anR (model X.prog X.w) X.A (.compLoop (.ListComp elt [⟨tg,iter,ifs,0⟩] scope pos) 0 (.ref it) (.ref D) (apy scope cl C X.env)) (RR (.ref D) C) s':=by
  rintro s' rfl
  refine VO (fun n s'=>∃ i zs H' os ai nn,os.length=own.length/\Inv (bG X (own++ys) scope cl C s2 H2 fp (X.pn++pins)) [] (os++fr.map fun j=>(σ[j]?).join) H' s'/\tn i s'.heap/\(∀ b∈fp,H' b=none)/\H' D=none /\
   s'.heap.get? D=some { cls:=.type "list",data:=.seq (ai:List ak3).toArray nn }/\Vals zs ai/\W i n zs H') ?_ m0 ⟨0,[],H2,own.map fun _=>none,[],0,by simp,I4,sE,fun b hb=>(f2 b hb).1,I2.ao.fresh sA,hD,.nil,w0⟩
  rintro n s3 ⟨i,zs,H3,Ms,ai,nn,VS,I3,jN,jO,k6,zM,r3,w3⟩
  have sF:Inv (bG X (own++ys) scope cl C s2 H2 fp (X.pn++pins)) [(D,{ cls:=.type "list",data:=.seq ai.toArray nn })] (Ms++fr.map fun j=>(σ[j]?).join) H3 s3:=I3.kD fun p hp=>by
   have:p=(D,{ cls:=.type "list",data:=.seq ai.toArray nn }):=by simpa using hp
   subst this
   exact⟨zM,k6,fV,sy D (alm _),fun v z=>nomatch z⟩
  rcases turn i n zs H3 w3 with ⟨stop,hlen,q⟩|⟨go,hlen,N,sH,step⟩
  ·refine amc (T.done (bG X (own++ys) scope cl C s2 H2 fp (X.pn++pins)) rfl rfl rfl hc i _ s3 _ H3 (fun _ _=>False) sF (kZ H3 _ jO) jN stop) (fun r s4 ⟨hr,J4⟩=>?_) fun _ _ z=>z.elim
   subst hr
   have un:=J4.base
   have zN:∀ b o,s2.heap.get? b=some o->b≠D:=fun b o e=>by have:=alb e;walk_at "om"
   have e9:∀ b u,H3 b=some u->b≠D:=fun b u e z=>by rw[z,k6] at e;cases e
   refine zJ D C s4 (upd H3 D (.lst zs)) ?_ ?_ ?_ (q D k6)
   ·refine I2.JR (ch:=fp) J4.os ⟨un.keep,un.slot,fun b o e nn hx=>?_,un.there,fun b xs e=>?_,fun b o u e=>?_,fun b ps e=>?_⟩ (fun a o e=>?_) J4.bare fun b hb=>?_
    ·rw[aH (zN b o e)];exact un.free b o e nn hx
    ·have:=un.ff b xs e;rw[aH (e9 b _ this)];exact this
    ·have:=un.eG b o u e;rw[aH (e9 b _ this)];exact this
    ·obtain⟨more,this⟩:=un.fg b ps e
     exact⟨more,by rw[aH (e9 b _ this)];exact this⟩
    ·by_cases ha:a=D
     ·subst ha
      rw[au] at e;cases e
      exact⟨hlen,ai,nn,r3,(J4.pin (a,_) (alq _ (alP.mpr rfl))).1⟩
     ·rw[aH ha] at e
      exact (J4.ao a o e).fI (fun _ _ _ z=>z) (fun b z=>by rw[aH (e9 b _ z)];exact z) fun b xs z=>by rw[aH (e9 b _ z)];exact z
    ·obtain⟨_,d1,d2,d3,d4,d5⟩:=f2 b hb
     exact⟨d3,d1,d4,d5⟩
   ·obtain⟨m,hm,_⟩:=J4.loc
    exact⟨m,hm⟩
   ·exact I2.fL kY (by rw[aH (al5 fV)];exact J4.free)
  ·refine amc (T.item (bG X (own++ys) scope cl C s2 H2 fp (X.pn++pins)) rfl rfl rfl hc i _ s3 _ H3 (fun _ _=>False) sF (kZ H3 _ jO) jN go) (fun r s4 ⟨u,hr,h4⟩=>?_) fun _ _ z=>z.elim
   subst hr
   refine amc h4 (fun _ s5 ⟨y5,H5,I5,r5,yl,gO,rS⟩=>?_) fun _ _ z=>z.elim
   have rT:=I5.pinned (kZ H5 _ rS) (T.obj _ _ gO)
   refine amc (hg C s2 H2 fp (X.pn++pins) _ s5 _ H5 y5 u _ rT r5 (step Ms VS y5 H5 yl)) (fun _ s6 ⟨σ6,H6,I6,vY,Mt,e6,q6⟩=>?_) fun _ _ z=>z.elim
   subst e6
   have after:∀ (s7:ak7) (H7:Hp),Inv (bG X (own++ys) scope cl C s2 H2 fp (X.pn++pins)) ([(D,{ cls:=.type "list",data:=.seq ai.toArray nn })]++n5 fp s5.heap) (vY++fr.map fun j=>(σ[j]?).join) H7 s7 ->
    Inv (bG X (own++ys) scope cl C s2 H2 fp (X.pn++pins)) [] (vY++fr.map fun j=>(σ[j]?).join) H7 s7/\tn (i+1) s7.heap/\(∀ b∈fp,H7 b=none)/\H7 D=none/\s7.heap.get? D=some { cls:=.type "list",data:=.seq ai.toArray nn }:=fun s7 H7 I7=>by
    have pD:=I7.pin (D,{ cls:=.type "list",data:=.seq ai.toArray nn }) (alq _ (amE _ (alP.mpr rfl)))
    refine⟨I7.kD fun p hp=>absurd hp (by simp),T.keep _ _ _ gO fun b hb o e=>(I7.pin (b,o) (alq _ (alq _ (n6 hb e)))).1,fun b hb=>?_,pD.2.1,pD.1⟩
    obtain⟨o,e,_⟩:=T.obj _ _ gO b hb
    exact (I7.pin (b,o) (alq _ (alq _ (n6 hb e)))).2.1
   refine amc ((hb C s2 H2 fp (X.pn++pins)).1 _ s6 _ H6 _ I6 q6) (fun ok s7 ⟨H7,I7,q7⟩=>?_) fun _ _ z=>z.elim
   dsimp only at q7
   by_cases ao:ok=true
   ·rw[if_pos ao] at q7 ⊢
    refine amc ((hb C s2 H2 fp (X.pn++pins)).2 _ s7 _ H7 _ I7 q7) (fun yv s8 ⟨y8,H8,I8,r8,n8⟩=>?_) fun _ _ z=>z.elim
    obtain⟨m',k7,w8⟩:=sH _ _ n8
    obtain⟨J8,zO,zP,sI,k8⟩:=after s8 H8 I8
    have hl:=r3.length
    refine apT apx ⟨_,k8,rfl⟩ apc (ao7 _ _) (apU D ai.toArray nn yv (by rw[alo];walk_at "om")) ⟨k8,?_⟩
    have sJ:=aqc k8 (fun a=>a.push yv)
    rw[arL] at sJ
    refine⟨m',k7,i+1,zs++[y8],H8,vY,ai++[yv],_,Mt,J8.turned (it:=D) (fun b o bE e=>(alg _ _ (al5 bE)).trans e) sI fV (.inr sA) (fun y c e z=>?_) (fun p hp=>?_),T.keep _ _ _ zO fun b bE o e=>?_,zP,sI,sJ,r3.append (.cons r8 .nil),w8⟩
    ·obtain⟨v,o,ho,_⟩:=I2.cell y c (S.cls.get y c e)
     have:=alb ho
     walk_at "om"
    ·have cn:p∈X.pn++pins:=by
      have:p∈(X.pn++pins)++[]:=hp
      simpa using this
     exact (sC p cn).2.1
    ·have:=eZ b bE
     exact (alg _ _ (by walk_at "om")).trans e
   ·rw[if_neg ao] at q7 ⊢
    obtain⟨m',k7,w7⟩:=sH _ _ q7
    obtain⟨J7,zQ,zR,zS,zT⟩:=after s7 H7 I7
    exact⟨m',k7,i+1,zs,H7,vY,ai,nn,Mt,J7,zQ,zR,zS,zT,r3,w7⟩
 exact aqm (loop _ rfl) (T.self X.A 0 _ _ _ sE (loop _ rfl))
theorem Mu {wi:TI} (S:sN X own scope cl fr ys) (hc:X.calm=true) (hi:PI X tg iter wi) (hg:∀ (C:ala) (s:ak7) (H:Hp) (ex:List ala) (pn:List (ala × Obj)),PG (bG X (own++ys) scope cl C s H ex pn) tg g)
 (hb:∀ (C:ala) (s:ak7) (H:Hp) (ex:List ala) (pn:List (ala × Obj)),kX (bG X (own++ys) scope cl C s H ex pn) ifs tt/\PE (bG X (own++ys) scope cl C s H ex pn) elt te)
 (hs:∀ z,aoI iter X.env z=pure z:=by intro _;rfl):PE X (.ListComp elt [⟨tg,iter,ifs,0⟩] scope pos) (Mq own.length wi g fr tt te):=by
 intro pins s σ H Q I h
 rw[eval_ListComp]
 refine aos (use:=none) rfl hs S.clos S.kind (fun y hy hl=>?_) (aC (hi pins s σ H _ I h) fun xv s1 h1=>aC h1 fun rQ s2 h2=>?_)
 ·have z:=amA.mp S.names y hy
  rw[hl] at z
  simpa using z
 ·obtain⟨it,fp,tn,J,H2,rfl,I2,T,eX,f2,hB⟩:=h2
  refine VR (RR:=fun acc C=>compPost (model X.prog X.w) X.A X.xe none (EP X pins σ Q) acc C) S hc hg hb I2 T eX f2 hB fun D C s' H' J' hn fC q=>?_
  obtain⟨m,hm⟩:=hn
  obtain⟨c0,c1,c2,c3,c4,c5⟩:=fC
  exact⟨m,hm,fun h' sb=>⟨.ref D,H',J'.turned (it:=C) (fun b o hb e=>sb.extBut b o hb e) c0 c1 c3 c4 c5,rfl,q⟩⟩
end
end Gz
namespace Gz
open PySem PySem.Spec PyProof.Rows L2
section
variable {X:Cx} {K:ak2}
variable {ρ:L2.St} {tt:TT} {te:TE} {H:Hp} {Q:VK} {a b:ala} {xs ys:List V}
end
end Gz
namespace Gz
open PySem PySem.Spec PyProof.Rows L2
theorem VT (xs:List V) (a:Nat):kK xs (some (a:Int)) none=xs.drop a:=by
 unfold kK
 rw[HT.Tq,HT.Tp]
 by_cases h:a<=xs.length
 ·rw[Nat.min_eq_left h,aqo (by rw[aqb];lia)]
 ·rw[Nat.min_eq_right (by lia),aqp (alm _),aqp (by lia)];simp
theorem Ad {K:ak2} {H:Hp}:∀ (ns:List Int),ee K H (ns.map V.int) (ns.map PyData.int)
 | []=>.nil
 | n::ns=>.cons (.int n) (Ad ns)
mutual
noncomputable def gA:Nat->anH->Bool
 | _,.none=>true
 | _,.bool _=>true
 | _,.int _=>true
 | n+1,.tuple ds=>oG n ds
 | n+1,.list ds=>oG n ds
 | _,_=>false
noncomputable def oG:Nat->List anH->Bool
 | _,[]=>true
 | n,d::ds=>gA n d && oG n ds
end
mutual
theorem Mv:∀ (d:anH) {n:Nat},gA n d=true->amZ d d=true/\d.canLay0=true/\d.depth<=n
 | .none,n,_=>⟨rfl,rfl,alv _⟩
 | .bool b,n,_=>⟨by simp[amZ],rfl,alv _⟩
 | .int i,n,_=>⟨by simp[amZ],rfl,alv _⟩
 | .str x,0,h=>by simp[gA] at h
 | .str x,n+1,h=>by simp[gA] at h
 | .dict x,0,h=>by simp[gA] at h
 | .dict x,n+1,h=>by simp[gA] at h
 | .tuple ds,0,h=>by simp[gA] at h
 | .list ds,0,h=>by simp[gA] at h
 | .tuple ds,n+1,h=>by
  obtain⟨a,b,c⟩:=Ae ds (n:=n) (by simpa [gA] using h)
  exact⟨by simpa only [amZ] using a,by simpa only [aoS] using b,by simp only[PyData.depth];lia⟩
 | .list ds,n+1,h=>by
  obtain⟨a,b,c⟩:=Ae ds (n:=n) (by simpa [gA] using h)
  exact⟨by simpa only [amZ] using a,by simpa only [aoS] using b,by simp only[PyData.depth];lia⟩
theorem Ae:∀ (ds:List anH) {n:Nat},oG n ds=true->anL ds ds=true/\aoN ds=true/\apg ds<=n
 | [],n,_=>⟨rfl,rfl,alv _⟩
 | d::ds,n,h=>by
  have h':gA n d=true/\oG n ds=true:=by simpa [oG] using h
  obtain⟨a,b,c⟩:=Mv d h'.1
  obtain⟨a',b',c'⟩:=Ae ds h'.2
  exact⟨by simp only[anL,a,a',ap6],by simp only[aoN,b,b',ap6],by simp only[apg];lia⟩
end
end Gz
namespace Gz
open PySem PySem.Spec PyProof.Rows L2
end Gz
namespace Gz
open PySem PySem.Spec PyProof.Rows L2
noncomputable def ay {α:Type} (R:V->α->Prop):List V->List α->Prop
 | [],[]=>True
 | x::xs,a::as=>R x a/\ay R xs as
 | _,_=>False
section
variable {α:Type} {R R':V->α->Prop}
theorem ay.len:∀ {xs:List V} {as:List α},ay R xs as->xs.length=as.length
 | [],[],_=>rfl
 | _::_,_::_,h=>by simp[ay.len h.2]
 | [],_::_,h=>h.elim
 | _::_,[],h=>h.elim
theorem ay.imp (f:∀ x a,R x a->R' x a):∀ {xs:List V} {as:List α},ay R xs as->ay R' xs as
 | [],[],_=>trivial
 | _::_,_::_,h=>⟨f _ _ h.1,ay.imp f h.2⟩
 | [],_::_,h=>h.elim
 | _::_,[],h=>h.elim
theorem ay.get:∀ {xs:List V} {as:List α},ay R xs as->∀ {i:Nat} {x:V},xs[i]?=some x->∃ a,as[i]?=some a/\R x a
 | [],[],_,i,x,e=>by simp at e
 | _::_,a::_,h,0,x,e=>by simp at e;subst e;exact⟨a,by simp,h.1⟩
 | _::_,_::_,h,i+1,x,e=>by
  simp only[anc] at e ⊢
  exact ay.get h.2 e
 | [],_::_,h,_,_,_=>h.elim
 | _::_,[],h,_,_,_=>h.elim
theorem ay.at:∀ {xs:List V} {as:List α},ay R xs as->∀ {i:Nat} {a:α},as[i]?=some a->∃ x,xs[i]?=some x/\R x a
 | [],[],_,i,x,e=>by simp at e
 | x::_,_::_,h,0,a,e=>by simp at e;subst e;exact⟨x,by simp,h.1⟩
 | _::_,_::_,h,i+1,a,e=>by
  simp only[anc] at e ⊢
  exact ay.at h.2 e
 | [],_::_,h,_,_,_=>h.elim
 | _::_,[],h,_,_,_=>h.elim
theorem ay.app:∀ {xs ys:List V} {as bs:List α},ay R xs as->ay R ys bs->ay R (xs++ys) (as++bs)
 | [],_,[],_,_,h=>h
 | _::_,_,_::_,_,h,h'=>⟨h.1,ay.app h.2 h'⟩
 | [],_,_::_,_,h,_=>h.elim
 | _::_,_,[],_,h,_=>h.elim
theorem ay.snoc {xs:List V} {as:List α} {x:V} {a:α} (h:ay R xs as) (h':R x a):ay R (xs++[x]) (as++[a]):=h.app ⟨h',trivial⟩
theorem ay.ints:∀ (ns:List Int),ay (fun x n=>x=V.int n) (ns.map V.int) ns
 | []=>trivial
 | n::ns=>⟨rfl,ay.ints ns⟩
theorem ay.gK {lo:Int} (n:Nat):ay (fun x (k:Nat)=>x=V.int (lo+k)) ((al4 n).map fun k=>V.int (lo+(k:Nat))) (al4 n):=by
 suffices ∀ l:List Nat,ay (fun x (k:Nat)=>x=V.int (lo+k)) (l.map fun k=>V.int (lo+(k:Nat))) l from this _
 intro l
 induction l with
 | nil=>trivial
 | cons a l ih=>exact⟨rfl,ih⟩
end
theorem filter_tt {α:Type} (l:List α):l.filter (fun _=>true)=l:=arh.mpr fun _ _=>rfl
noncomputable abbrev P2:=Int × Int
noncomputable def cw (H:Hp) (v:V) (p:P2):Prop:=∃ a,v = .ref a/\H a=some (.tup [.int p.1,.int p.2])
theorem cw.same {H H':Hp} {v:V} {p:P2} (h:cw H v p) (s:ak H H'):cw H' v p:=let ⟨a,e,q⟩:=h;⟨a,e,s _ _ q⟩
theorem cw.put {H:Hp} {v:V} {p:P2} {r:ala} {ys zs:List V} (h:cw H v p) (hr:H r=some (.lst ys)):cw (upd H r (.lst zs)) v p:=by
 obtain⟨a,e,q⟩:=h
 refine⟨a,e,?_⟩
 rw[aH (vf q hr (fun z=>nomatch z))];exact q
noncomputable abbrev cZ (H:Hp):List V->List P2->Prop:=ay (cw H)
theorem cZ.same {H H':Hp} {xs:List V} {ps:List P2} (h:cZ H xs ps) (s:ak H H'):cZ H' xs ps:=ay.imp (fun _ _ r=>r.same s) h
theorem cZ.put {H:Hp} {xs:List V} {ps:List P2} {r:ala} {ys zs:List V} (h:cZ H xs ps) (hr:H r=some (.lst ys)):cZ (upd H r (.lst zs)) xs ps:=ay.imp (fun _ _ x=>x.put hr) h
noncomputable def aside (s e p:P2):Int:=(p.2-s.2) * (e.1-s.1)-(p.1-s.1) * (e.2-s.2)
noncomputable def aK (ps:List P2) (i:Nat):P2:=ps.getD i (0,0)
theorem VU {H:Hp} {xs:List V} {ps:List P2} (h:cZ H xs ps) {i:Nat} (hi:i<ps.length):∃ v,cB xs (i:Int)=some v/\cw H v (aK ps i):=by
 have e:ps[i]?=some (aK ps i):=by unfold aK;rw[ak4,ak9 hi];rfl
 obtain⟨x,ex,r⟩:=h.at e
 exact⟨x,dC ex,r⟩
end Gz
namespace Gz
open PySem PySem.Spec PyProof.Rows L2
end Gz
namespace Gz
open PySem PySem.Spec PyProof.Rows L2
end Gz
namespace Gz
open PySem PySem.Spec PyProof.Rows L2
noncomputable def VV (ks:List P2) (p q:Int) (i:Nat):Prop:=i+1<ks.length/\(aK ks i).1 * q<=p/\p<=(aK ks (i+1)).1 * q
noncomputable def hit (ks:List P2) (p q:Int):Prop:=∃ i,VV ks p q i
noncomputable def SameBut (x:ala) (H H':Hp):Prop:=∀ b o,b≠x->H b=some o->H' b=some o
end Gz
namespace Gz
open PySem PySem.Spec PyProof.Rows L2
theorem oH {ps:List P2} {i:Nat} (hi:i<ps.length):aK ps i∈ps:=by
 unfold aK;rw[ak4,ak9 hi];exact ao3 hi
end Gz
namespace Gz
open PySem PySem.Spec PyProof.Rows L2
theorem iD {α β:Type} {R:Hp->V->α->Prop} {R':Hp->V->β->Prop} {Ok:Hp->Prop} {ρ:L2.St} {tt:TT} {te:TE} {f:α->β} {Q':List V->Hp->Prop} (mono:∀ H H' x a,ak H H'->R H x a->R H' x a) (oI:∀ H H' x a,ak H H'->R' H x a->R' H' x a) :
 ∀ {xs:List V} {as:List α} {ys:List V} {bs:List β} {H:Hp},ay (R H) xs as->ay (R' H) ys bs->(∀ H',ak H H'->Ok H')->(∀ x a,a∈as->∀ H',ak H H'->R H' x a->∀ Q,Q true H'->tt (some x::ρ) H' Q) ->
 (∀ x a,a∈as->∀ H',ak H H'->R H' x a->∀ Q:VK,(∀ k9 y,ak H' k9->R' k9 y (f a)->Q y k9)->te (some x::ρ) H' Q) ->
 (∀ H' zs,ak H H'->ay (R' H') zs (bs++as.map f)->Q' zs H')->eM Ok ρ tt te xs ys H Q'
 | [],[],ys,bs,H,_,hy,dj,_,_,q=>⟨dj H (ak.refl H),q H ys (ak.refl H) (by simpa using hy)⟩
 | x::xs,a::as,ys,bs,H,h,hy,dj,ht,he,q=>by
  refine⟨dj H (ak.refl H),ht x a (.head _) H (ak.refl H) h.1 _ ?_⟩
  rw[if_pos rfl]
  refine he x a (.head _) H (ak.refl H) h.1 _ fun H2 y s2 r2=>?_
  refine iD mono oI (bs:=bs++[f a]) (h.2.imp fun x a r=>mono _ _ _ _ s2 r) ((hy.imp fun x a r=>oI _ _ _ _ s2 r).snoc r2) (fun H' s'=>dj H' (s2.trans s')) (fun x a ha H' s'=>ht x a (.tail _ ha) H' (s2.trans s')) (fun x a ha H' s'=>he x a (.tail _ ha) H' (s2.trans s')) fun H' zs s' hz=>?_
  refine q H' zs (s2.trans s') ?_
  rw[alH]
  rwa [aoO] at hz
 | [],_::_,_,_,_,h,_,_,_,_,_=>h.elim
 | _::_,[],_,_,_,h,_,_,_,_,_=>h.elim
noncomputable def sw (ks:List P2):List P2:=ks.map fun p=>(p.2,p.1)
end Gz
namespace Gz
open PySem PySem.Spec PyProof.Rows L2
end Gz
namespace Gz
open PySem PySem.Spec PyProof.Rows L2
theorem zi {us:List ak3} {ns:List Int} (h:ap4 us ns):Vals (ns.map V.int) us:=by
 induction h with
 | nil=>exact .nil
 | cons n t r ih=>exact .cons ⟨t,rfl⟩ ih
noncomputable abbrev sO (H:Hp) (v:V) (s:S2):Prop:=aV H v s.1 s.2
noncomputable def cellsFrom:En->List Int->List S2
 | lo,[]=>[(lo,none)]
 | lo,z::zs=>(lo,some (z-1))::cellsFrom (some z) zs
noncomputable def jk (c:S2):Int:=match c.1,c.2 with
 | some x,_=>x
 | none,some y=>y
 | none,none=>0
theorem VW {c:S2} (h:Mg c):hs c (jk c)=true:=by
 rw[Vr]
 unfold Mg at h
 rcases c with ⟨_|x,_|y⟩
 ·exact⟨fun _ e=>(nomatch e),fun _ e=>(nomatch e)⟩
 ·exact⟨fun _ e=>(nomatch e),fun _ e=>by cases e;exact amF _⟩
 ·exact⟨fun _ e=>by cases e;exact amF _,fun _ e=>(nomatch e)⟩
 ·refine⟨fun _ e=>by cases e;exact amF _,fun _ e=>?_⟩
  cases e
  show x<=y
  simp[aY] at h;lia
end Gz
namespace Gz
open PySem PySem.Spec PyProof.Rows L2
end Gz
namespace Gz
open PySem PySem.Spec PyProof.Rows L2
end Gz
namespace Gz
open PySem PySem.Spec PyProof.Rows L2
section
variable {X:Cx} {CX:dY} {k:Nat} {f C:ala} {fd:alB} {ps:List Str} {ds:List ak3} {cG:List V} {sp:Sp} {E:XK} {x m:Str} {p pos apos:Pos} {e:am7} {es:List am7} {t:TA}
end
section
variable {X:Cx}
end
section
variable {X:Cx} {CX:dY} {k:Nat} {f:ala} {fd:alB} {ps:List Str} {ds:List ak3} {cG:List V} {sp:Sp} {E:XK} {m:Str} {pos apos:Pos} {o e:am7} {es:List am7} {ta:TE} {t:TA}
end
noncomputable abbrev W2:=Option S2
noncomputable def cy (H:Hp) (v:V):W2->Prop
 | none=>v = .non
 | some s=>aV H v s.1 s.2
theorem cy.same {H H':Hp} {v:V} {w:W2} (h:cy H v w) (s:ak H H'):cy H' v w:=by
 cases w with
 | none=>exact h
 | some a=>exact aV.same h s
end Gz
namespace Gz
open PySem L2 PySem.W PySem.Spec PyProof.Rows
noncomputable def Bt (n:Nat) (x:Int):Prop:=anK x<=n
theorem Bt.add {n:Nat} {x y:Int} (h:Bt n x) (h':Bt n y):Bt (n+1) (x+y):=by
 have:=atb h h'
 rwa [Nat.max_self] at this
theorem Bt.mul {n m:Nat} {x y:Int} (h:Bt n x) (h':Bt m y):Bt (n+m) (x * y):=atc h h'
theorem Bt.up {n m:Nat} {x:Int} (h:Bt n x) (hm:n<=m):Bt m x:=alp h hm
theorem Bt.small {x:Int} (h1 : -(2 ^ 64)<x) (h2:x<2 ^ 64):Bt 64 x:=PySem.intBits_le_64 h1 h2
noncomputable def jm (i j:Int):Prop:=Bt 40000000 i/\Bt 40000000 j
theorem jm.ok {i j:Int} (h:jm i j):IntMulOk i j:=asI h.1 h.2 (by decide)
theorem VX {X:Cx}:bp X (aok .Mult) (rI jm fun i j=>.int (i * j)):=vA fun _ _ _ _ _ _ _ hc q=>mul_int q hc.ok
noncomputable def fu (ns:List Int):Prop:=ns.length<=63/\∀ x∈ns,Bt 1048576 x
theorem weigh:∀ (ns:List Int) (x:Int),x∈ns->anK x<=anM (ns.map PySem.W.WData.int)
 | [],x,h=>by simp at h
 | y::ns,x,h=>by
  have e:anM ((y::ns).map PySem.W.WData.int)=(if y == 0 then 0 else y.natAbs.log2+1)+1+anM (ns.map PySem.W.WData.int):=by
   rw[alH]
   simp only[anM,aqY]
  rw[e]
  rcases alk.mp h with rfl|h
  ·unfold anK
   lia
  ·have:=weigh ns x h
   lia
theorem VY {ns:List Int} (h:asR [PySem.W.WData.list (ns.map PySem.W.WData.int)]=true):∀ x∈ns,Bt 1048576 x:=by
 intro x hx
 have h1:aoZ (PySem.W.WData.list (ns.map PySem.W.WData.int))=true:=by
  have:(aoZ (PySem.W.WData.list (ns.map PySem.W.WData.int)) && true)=true:=h
  rwa [Bool.and_true] at this
 unfold aoZ at h1
 rw[amM] at h1
 have h2:=of_decide_eq_true h1.2
 have h3:=weigh ns x hx
 simp only[aqY] at h2
 unfold Bt
 lia
theorem VZ {l:aqH} {k:Nat} {q:alr} {loose:List Str} {XP:(Str->Option ak3)->amH->Prop} {YP:alS->amH->Prop} {d:DefRec} {K:Params->ak2} {CX:alS->dY} {sp:alS->Sp} {x:Str}
 (most:l.most=some 63) (plain:d.params.defaults=[]) (room:ck k asr)
 (V0:∀ (w:alS) (h:amH),YP w h->(K w.params).In h)
 (F:∀ (w:alS) (mg:Str->Option ak3) (fa:ala) (h:amH),(K w.params).In h->h.Ns ale mg->mg d.name=some (.ref fa) ->
   ∃ fd:alB,(∀ (s:ak7) (u:ak3),asl s fd ⟨[u],[]⟩ [(x,u)]) /\
    ∀ base:amH,(K w.params).In base->base.Ns ale mg->aL l.prog w (K w.params) mg base (CX w) k fa fd [x] (sp w))
 (law:∀ (w:alS) (H:Hp) (a:ala) (ns:List Int),fu ns->ah (K w.params) H a (ns.map V.int)->sp w [.ref a] H (fun v _=>v = .bl true) fun _ _ _=>False)
 (calm:∀ (w:alS) (H:Hp) (s:ak7) (e:ak3) (s':ak7),CX w [] H s (fun _ _ _=>False) e s'->False) :
 as1 q loose XP YP l.row.toRowW d [] (fun f vs=>PySem.call f vs):=by
 intro w t₀ t mg mb G Y f ob pm cd doc dV kV look data code defs at_ gens args vals as pre lay _ well _
 have e1:dV = .none:=Dflts.none defs plain
 have e2:kV = .none:=Dflts.noKw defs
 cases e1
 cases e2
 obtain⟨a,vs,ns,e3,e4,obj,are,len⟩:=zh.TY most pre well
 cases e3
 cases e4
 have KX:=V0 w _ Y
 obtain⟨fd,bind,ok⟩:=F w mg f _ KX G.T.g at_
 have run:=T5 KX G.T.g G.T.b G.T.builtins G.T.nolimit gens obj are (alp len (by decide)) room ok bind
  (fun H _ S=>law w H a ns ⟨len,VY lay⟩ S) fun H e s'=>calm w H t e s'
 refine enter_call (aoX run ?_)
 rintro r s' ⟨rfl,old,os,bare⟩
 exact⟨.inl ⟨.bool true,.bool true,[],rfl,fun _=>rfl,.bool true,zh.T4 l _,fun _=>⟨List.Pairwise.nil,fun _ z=>(nomatch z)⟩⟩,old,os,bare⟩
noncomputable def fv (ns:List Int) (k:Int):Int:=if 0<(ns.length:Int) then ns.getD (k % (ns.length:Int)).toNat 0 else 0
theorem Mw {ns:List Int} (h:fu ns) (k:Int):Bt 1048576 (fv ns k):=by
 unfold fv
 split
 ·rw[ak4]
  cases e:ns[(k % (ns.length:Int)).toNat]? with
  | none=>exact (Bt.small (by decide) (by decide)).up (by decide)
  | some n=>exact h.2 _ (alx e)
 ·exact (Bt.small (by decide) (by decide)).up (by decide)
theorem Mx {ns:List Int} {k:Int} (h:0<(ns.length:Int)):cB (ns.map V.int) (k % (ns.length:Int))=some (.int (fv ns k)):=by
 have h1:=aqI k (show (ns.length:Int)≠0 by lia)
 have h2:=apz k h
 unfold fv
 rw[if_pos h]
 have ek:k % (ns.length:Int)=(((k % (ns.length:Int)).toNat:Nat):Int):=by lia
 refine (congrArg (cB _) ek).trans (dC ?_)
 rw[alz,ak4,ak9 (by lia)]
 rfl
theorem V1 {ns:List Int} (h:fu ns) {k:Int} (hk : -1000000<=k/\k<=1000000):jm k k/\jm (fv ns k+1009) (fv ns k+48271+k * k):=by
 have c:=Mw h k
 have k1:Bt 64 k:=Bt.small (by lia) (by lia)
 have k2:Bt 128 (k * k):=k1.mul k1
 have n1:Bt 1048576 1009:=(Bt.small (by decide) (by decide)).up (by decide)
 have n2:Bt 1048576 48271:=(Bt.small (by decide) (by decide)).up (by decide)
 exact⟨⟨k1.up (by decide),k1.up (by decide)⟩,(c.add n1).up (by decide),((c.add n2).add (k2.up (by decide))).up (by decide)⟩
theorem V2 {ns:List Int} (h:fu ns) (k:Int):jm 2147483629 (fv ns k)/\jm (2147483629 * fv ns k) (fv ns k)/\jm (2147483629 * fv ns k * fv ns k) (fv ns k):=by
 have c:=Mw h k
 have n1:Bt 64 2147483629:=Bt.small (by decide) (by decide)
 have c1:=n1.mul c
 have c2:=c1.mul c
 exact⟨⟨n1.up (by decide),c.up (by decide)⟩,⟨c1.up (by decide),c.up (by decide)⟩,c2.up (by decide),c.up (by decide)⟩
end Gz
namespace Gz
open PySem PySem.Spec PyProof.Rows L2
end Gz
namespace Gz
open PySem PySem.Spec PyProof.Rows L2
theorem Af {vs:List Int} {p:Int} (h0:0<=p) (h1:p<(vs.length:Int)):∃ v,v∈vs/\cB (vs.map V.int) p=some (.int v):=by
 have e:p=((p.toNat:Nat):Int):=by lia
 refine⟨vs[p.toNat]'(by lia),ao3 _,?_⟩
 refine (congrArg (cB _) e).trans (dC ?_)
 rw[alz,ak9 (by lia)]
 rfl
theorem My {x:Int} (h:x.natAbs<2 ^ 600):Bd 4000 x:=Bd.up (n:=600) h (by decide)
theorem iE {x y:Int} (h:x.natAbs<2 ^ 600) (h':y.natAbs<2 ^ 600):ot x y:=⟨My h,My h'⟩
end Gz
namespace Gz
theorem V3 (i j:Nat):(if (j:Int)<(i:Int) then (j:Int) else (i:Int))=((min i j:Nat):Int):=by split<;>lia
theorem V4 (i j:Nat):(if (j:Int) > (i:Int) then (j:Int) else (i:Int))=((max i j:Nat):Int):=by split<;>lia
end Gz
namespace Gz
open PySem L2
theorem aJ {a b:TS} {D:Ends} {σ:L2.St} {H:Hp} (I:L2.St->Hp->Prop) (h1:∀ N:L2.St->Hp->Prop,(∀ σ H,I σ H->N σ H)->a { D with nx:=N } σ H) (h2:∀ σ H,I σ H->b D σ H):yE a b D σ H:=h1 _ h2
end Gz
namespace Gz
open PySem L2 PySem.W PySem.Spec PyProof.Rows
noncomputable def pre (f:P2->Int) (ps:List P2) (i:Nat):Int:=((ps.take i).map f).sum
theorem fW (f:P2->Int) (ps:List P2) {i:Nat} (h:i<ps.length):pre f ps (i+1)=pre f ps i+f (aK ps i):=by
 unfold pre aK
 rw[amK,am3,List.sum_append,ak4,ak9 h]
 simp only[art,alH,apw,List.sum_cons,List.sum_nil,Int.add_zero,aqe]
noncomputable def bB (ps:List P2) (i j:Nat):Int:=if i<=j then pre (·.2) ps j-pre (·.2) ps i else pre (·.1) ps j-pre (·.1) ps i
noncomputable def dN (ps:List P2):Prop:=∀ p∈ps,p.1<=p.2
theorem Mz {ps:List P2} (h:dN ps) (i:Nat):∀ n,i+n<=ps.length->pre (·.1) ps (i+n)-pre (·.1) ps i<=pre (·.2) ps (i+n)-pre (·.2) ps i
 | 0,_=>by simp
 | n+1,hn=>by
  have ih:=Mz h i n (by lia)
  rw[show i+(n+1)=(i+n)+1 by lia,fW _ ps (by lia),fW _ ps (by lia)]
  have:=h _ (oH (ps:=ps) (i:=i+n) (by lia))
  lia
theorem oJ {ps:List P2} (h:dN ps) {i j:Nat} (gx:i<=j) (hj:j<=ps.length):pre (·.1) ps j-pre (·.1) ps i<=pre (·.2) ps j-pre (·.2) ps i:=by
 have:=Mz h i (j-i) (by lia)
 rwa [show i+(j-i)=j by lia] at this
theorem V5 {ps:List P2} (h:dN ps) {i j k:Nat} (hi:i<=ps.length) (hj:j<=ps.length) (hk:k<=ps.length):bB ps i j<=bB ps i k+bB ps k j:=by
 have a:=fun h'=>oJ h (i:=i) (j:=j) h' hj
 have b:=fun h'=>oJ h (i:=j) (j:=i) h' hi
 have c:=fun h'=>oJ h (i:=i) (j:=k) h' hk
 have d:=fun h'=>oJ h (i:=k) (j:=i) h' hi
 have e:=fun h'=>oJ h (i:=j) (j:=k) h' hk
 have f:=fun h'=>oJ h (i:=k) (j:=j) h' hj
 unfold bB
 split<;>split<;>split<;>lia
noncomputable def part (ps:List P2) (i j k:Nat):Int:=if i<j then pre (·.2) ps (min i j+k)-pre (·.2) ps i else pre (·.1) ps j-pre (·.1) ps (min i j+k)
theorem MA {ps:List P2} {i j:Nat}:part ps i j 0=0/\part ps i j (max i j-min i j)=bB ps i j:=by
 unfold part bB
 by_cases h:i<j
 ·rw[if_pos h,if_pos h,if_pos (by lia),show min i j+0=i by lia,show min i j+(max i j-min i j)=j by lia]
  lia
 ·rw[if_neg h,if_neg h,show min i j+0=j by lia,show min i j+(max i j-min i j)=i by lia]
  by_cases e:i=j
  ·subst e
   rw[if_pos (by lia)]
   lia
  ·rw[if_neg (by lia)]
   lia
end Gz
namespace Gz
open PySem PySem.Spec PyProof.Rows L2
noncomputable def bits (bs:List Int):Prop:=∀ x∈bs,x=0∨x=1
theorem V6 {H:Hp} {x dx C:ala} {fs:List (Str × V)} (hx:H x=none) (hd:H dx=none) (hn:dx≠x):ak H (upd (upd H dx (.own x)) x (.ins C dx fs)) :=
 (ax hd).trans (ax (by rw[aH (al5 hn)];exact hx))
noncomputable abbrev Lk:=Option (List Int)
noncomputable def V7 (xs:List ala) (H:Hp) (v:V):Lk->Prop
 | none=>v = .non
 | some bs=>∃ l,v = .ref l/\l∉xs/\H l=some (.lst (bs.map V.int))
noncomputable abbrev IsL:=V7 []
end Gz
namespace Gz
open PySem PySem.Spec PyProof.Rows L2
local macro_rules | `(tactic| walk_at "om") => `(tactic| ((try simp only [PySem.Addr] at *); lia))
section
variable {κ:Type} [DecidableEq κ]
noncomputable def fb (xs:List (κ × ala × ak3)) (k:κ):List (κ × ala × ak3):=xs.filter fun x=>decide (x.1≠k)
theorem V8 {xs:List (κ × ala × ak3)} {k:κ} (h:k∉xs.map (·.1)):fb xs k=xs:=by
 unfold fb
 rw[arh]
 intro x hx
 rw[decide_eq_true_eq]
 exact fun z=>h (alF.mpr ⟨x,hx,z⟩)
theorem MB:∀ {xs:List (κ × ala × ak3)} {k:κ} {j:Nat} {p:ala × ak3},(xs.map (·.1)).Nodup->xs[j]?=some (k,p)->xs.eraseIdx j=fb xs k
 | [],_,_,_,_,h=>by simp at h
 | x::r,k,0,p,hn,h=>by
  rw[alH,amo] at hn
  simp at h
  subst h
  have e:fb ((k,p)::r) k=fb r k:=by unfold fb;rw[amg,if_neg (by simp)]
  rw[e,V8 hn.1];rfl
 | x::r,k,j+1,p,hn,h=>by
  rw[alH,amo] at hn
  rw[anc] at h
  have ne:¬ x.1=k:=fun z=>hn.1 (z ▸ alF.mpr ⟨_,alx h,rfl⟩)
  have e:fb (x::r) k=x::fb r k:=by unfold fb;rw[amg,if_pos (by simpa using ne)]
  rw[e,ap7,MB hn.2 h]
theorem MC {α β:Type} (f:α->β):∀ (l:List α) (j:Nat),(l.map f).eraseIdx j=(l.eraseIdx j).map f
 | [],_=>rfl
 | _::_,0=>rfl
 | x::l,j+1=>by rw[alH,ap7,MC f l j];rfl
theorem V9 {xs:List (κ × ala × ak3)} {k:κ} (hn:(xs.map (·.1)).Nodup):((fb xs k).map (·.1)).Nodup:=hn.sublist ((ari).map _)
end
theorem MD {prog:alr} {w:alS} {K:Type} [DecidableEq K] {knd:HeapKind prog w K} {es:Array anl} {xs:List (K × ala × ak3)} {k:K} (he:es.toList=xs.map (arA knd)) (h:es.isEmpty=true):arb xs k=none:=by
 have e:es.size=0:=by simpa using h
 have l:=an2 he
 have:xs=[]:=amY.mp (by lia)
 rw[this];rfl
theorem KT.out {H:Hp} {kvs:List (List Key × V)} {xs:List (List Key × ala × ak3)} (r:KT H kvs xs) (k:List Key):KT H (ja kvs k) (fb xs k):=by
 unfold ja fb
 induction r with
 | nil=>exact .nil
 | @cons p q ps qs h t ih =>
  rw[amg,amg]
  by_cases e:p.1=k
  ·rw[if_neg (by simp[e]),if_neg (by simp[h.1.symm.trans e])];exact ih
  ·rw[if_pos (by simp[e]),if_pos (by rw[decide_eq_true_eq];exact fun z=>e (h.1.trans z))];exact .cons h ih
section
variable {prog:alr} {w:alS} {K:Type} [DecidableEq K] {knd:HeapKind prog w K} {A:alY} {E:ak3->ak7->Prop} {s:ak7}
theorem ME {d a:ala} {xs:List (K × ala × ak3)} {k:K} {Q:Option anl->ak7->Prop} (hu:knd.room A) (fP:knd.is s.heap k a) (hm:s.heap.DictOfH knd d xs) (hsz:xs.length<=alI)
 (h0:arb xs k=none->Q none { s with toks:=s.toks+knd.draws k })
 (h1:∀ p e,arb xs k=some p->e.val=p.2->∀ h',h'.DictOfH knd d (fb xs k)->Heap.SameBut d s.heap h'->Q (some e) { s with heap:=h',toks:=s.toks+knd.draws k }):alu (model prog w) A (Builtin.Dict.takeOut d (.ref a)) Q E s:=by
 obtain⟨o,es,ep,ho,hc,hd,he,his,hn⟩:=hm
 have oK:es.size<=alI:=by have e:=an2 he;lia
 unfold Builtin.Dict.takeOut
 try with_reducible refine al6 ?_
 refine ak1 (knd.pyHash hu fP ?_)
 refine ak1 (wpAny_dictFind_heap (s:={ s with toks:=s.toks+knd.draws k }) hu fP ho hd he his hn (fun cI=>?_) fun j p hj=>?_)
 ·exact ak6 (h0 (atKey_none_of_get cI))
 ·refine ak1 (anh (s:={ s with toks:=s.toks+knd.draws k }) ho hd ?_)
  have ej:=entry_at he j
  rw[hj] at ej
  rw[ej]
  refine ak1 (wpAny_updateDictKeys (hz:=oK) (s:={ s with toks:=s.toks+knd.draws k }) ho hd (ak6 (h1 p (arA knd (k,p)) (atKey_of_get hn hj) rfl _ ⟨_,_,ep+1,alO _ ho (Obj.isFreed_of_dict (aqZ hd _)),hc.mapDictKeys _,aqZ hd _,?_,?_,V9 hn⟩ (amm ..))))
  ·rw[<- MB hn hj]
   have lt:j<es.size:=by rw[an2 he];exact (alj.mp hj).1
   rw[Array.eraseIdxIfInBounds,dif_pos lt,Array.toList_eraseIdx,he,MC]
  ·exact fun x hx=>knd.keeps (his x (ama.mp hx).1) ho hd (amm ..)
theorem Wa {d a:ala} {more:List ak3} {Q:ak3->ak7->Prop} {xs:List (K × ala × ak3)} {k:K} (hu:knd.room A.in1) (fP:knd.is s.heap k a) (hd:(d == am2)=false) (hm:s.heap.DictOfH knd d xs) (hsz:xs.length<=alI) (MF:more=[] ∨ ∃ x,more=[x])
 (h1:∀ p,arb xs k=some p->∀ h' tk,h'.DictOfH knd d (fb xs k)->Heap.SameBut d s.heap h'->Q p.2 { s with heap:=h',toks:=tk })
 (h0:arb xs k=none->∃ x,more=[x]/\∀ tk,Q x { s with toks:=tk }):alu (model prog w) A (call (.builtin "dict.pop") (.ref d :: .ref a::more)) Q E s:=by
 have ha:aq3 "dict.pop" ⟨.ref d :: .ref a::more,[]⟩:=by
  rcases MF with q|⟨x,q⟩
  ·subst q;exact PySem.F.args_dict_pop_2 _ _
  ·subst q;exact PySem.F.args_dict_pop_3 _ _ _
 have g:MeetsIn prog w (an0.«dict.pop» ⟨.ref d :: .ref a::more,[]⟩) (fun A R s=>knd.room A.in1/\knd.is s.heap k a/\s.heap.DictOfH knd d xs/\(∀ p,arb xs k=some p->∀ h' tk,h'.DictOfH knd d (fb xs k)->Heap.SameBut d s.heap h'->R (.ok (.ret p.2)) { s with heap:=h',toks:=tk }) /\
  (arb xs k=none->∃ x,more=[x]/\∀ tk,R (.ok (.ret x)) { s with toks:=tk })):=.of_wp fun A R s ⟨hu,fP,hm,h1,h0⟩=>by
  obtain⟨o,es,ep,ho,hc,hda,he,his,hn⟩:=id hm
  unfold an0.«dict.pop»
  refine ak1 ?_
  unfold Builtin.Dict.keyAndDefault
  refine ak1 (aqJ hm.typeIs ?_)
  rcases MF with rfl|⟨dflt,rfl⟩
  ·show alu _ _ (pure (d,alJ a,none)) _ _ s
   refine ak6 ?_
   dsimp only
   rw[if_neg (show ¬ (keyPart (alJ a)).isSome=true from fun z=>nomatch z)]
   refine ak1 (anh ho hda (ak1 (ak6 ?_)))
   by_cases hemp:es.isEmpty=true
   ·rw[if_pos hemp]
    refine ak1 (an8 (ak1 (ak6 ?_)))
    rw[if_pos (show (none:Option anl).isNone=true from rfl)]
    refine ak1 (anB hd ?_)
    obtain⟨x,ex,hq⟩:=h0 (MD he hemp)
    cases ex
   ·rw[if_neg hemp]
    refine ak1 (ME hu fP hm hsz (fun Ag=>?_) fun p e hp Ah h' dd hs=>?_)
    ·rw[if_pos (show (none:Option anl).isNone=true from rfl)]
     refine ak1 (anB hd ?_)
     obtain⟨x,ex,hq⟩:=h0 Ag
     cases ex
    ·rw[if_neg (show ¬ (some e).isNone=true from by simp)]
     exact ak1 (amP (ak6 ⟨e.val,rfl,by rw[Ah];exact h1 p hp h' _ dd hs⟩))
  ·show alu _ _ (pure (d,alJ a,some dflt)) _ _ s
   refine ak6 ?_
   dsimp only
   rw[if_neg (show ¬ (keyPart (alJ a)).isSome=true from fun z=>nomatch z)]
   refine ak1 (anh ho hda (ak1 (ak6 ?_)))
   by_cases hemp:es.isEmpty=true
   ·rw[if_pos hemp]
    refine ak1 (an8 (ak1 (ak6 ?_)))
    rw[if_pos (show (none:Option anl).isNone=true from rfl)]
    refine ak1 (anB hd ?_)
    obtain⟨x,ex,hq⟩:=h0 (MD he hemp)
    cases ex;exact ak1 (an8 (ak6 ⟨dflt,rfl,hq _⟩))
   ·rw[if_neg hemp]
    refine ak1 (ME hu fP hm hsz (fun Ag=>?_) fun p e hp Ah h' dd hs=>?_)
    ·rw[if_pos (show (none:Option anl).isNone=true from rfl)]
     refine ak1 (anB hd ?_)
     obtain⟨x,ex,hq⟩:=h0 Ag
     cases ex;exact ak1 (an8 (ak6 ⟨dflt,rfl,hq _⟩))
    ·rw[if_neg (show ¬ (some e).isNone=true from by simp)]
     exact ak1 (amP (ak6 ⟨e.val,rfl,by rw[Ah];exact h1 p hp h' _ dd hs⟩))
 exact call_meetsIn aqK hm.typeIs PySem.F.entry_dict_pop ha g ⟨hu,fP,hm,h1,h0⟩
end
noncomputable def fz (h:amH) (d:ala) (es:Array anl) (ep:Nat):Prop:=∃ o,h.get? d=some o/\o.ExactDict/\o.data = .dict es ep
theorem fz.at {h h':amH} {d:ala} {es:Array anl} {ep:Nat} (x:fz h d es ep) (e:∀ o,h.get? d=some o->h'.get? d=some o):fz h' d es ep:=let ⟨o,ho,r⟩:=x;⟨o,e o ho,r⟩
theorem fz.lt {h:amH} {d:ala} {es:Array anl} {ep:Nat} (x:fz h d es ep):d<h.objs.size:=let ⟨_,ho,_⟩:=x;alb ho
theorem fz.ty {s:ak7} {d:ala} {es:Array anl} {ep:Nat} (x:fz s.heap d es ep):s.TypeIs (.ref d) "dict" := let ⟨o,ho,hc,_⟩:=x;⟨o,ho,hc.1⟩
section
variable {prog:alr} {w:alS} {A:alY} {E:ak3->ak7->Prop} {s:ak7} {d it:ala} {es:Array anl} {i ep:Nat}
theorem MG {Q:ak3->ak7->Prop} (lo:(d == am2)=false) (x:fz s.heap d es ep)
 (q:Q (.ref s.heap.objs.size) { s with heap:=s.heap.push { cls:=.type "dict_keyiterator",data:=.fields #[.ref d,.int 0 0,.int es.size 0,.int ep 0] } }):alu (model prog w) A (as8 (.ref d)) Q E s:=by
 have T:=x.ty
 obtain⟨o,ho,hc,hq⟩:=x
 refine apY T aqq (amr aqq T PySem.F.entry_dict_iter ?_ (PySem.F.args_dict_iter_1 _))
 unfold an0.«dict.__iter__»;refine ak1 ?_
 unfold Builtin.Dict.dictSlotNone;refine ak1 (aqJ T ?_)
 refine ak6 (a:=alJ d) ?_
 show alu _ A.in1 (Builtin.Dict.showsAll d >>= _) _ _ s
 unfold Builtin.Dict.showsAll;rw[if_neg (by rw[lo];exact alG)]
 refine ak1 (ak6 (ak1 (anh ho hq (ak1 (aqL ho hq ?_)))))
 refine ak1 (amd (ak6 ⟨_,rfl,"dict_keyiterator",_,⟨_,aln _ rfl,rfl⟩,PySem.F.slot_dict_keyiterator_next.lookup,?_⟩))
 simpa [aoB] using q
theorem MH {Q:Option ak3->ak7->Prop} (hit:s.heap.IsKeyIter it d i es.size ep) (x:fz s.heap d es ep) (hi:i<es.size)
 (q:∀ h',h'.IsKeyIter it d (i+1) es.size ep->Heap.SameBut it s.heap h'->Q (some es[i].key) { s with heap:=h' }):alu (model prog w) A (anu (.ref it)) Q E s:=by
 obtain⟨o,ho,hc,hd⟩:=id hit
 obtain⟨od,hod,fi,lj⟩:=x
 have T:=hit.typeIs
 unfold anu
 refine ak1 (aox (amC (name:=anf "__next__") T amU (amr amU T aoq ?_ (aof _))))
 refine ak1 (ak6 (ak1 (ak1 ?_)))
 first|refine ak1 (anb T (ak6 (ak1 (aog ho hd ?_))))|refine ak1 (anF T (ak6 (ak1 (aog ho hd ?_))))
 have ow:Builtin.Dict_items.ownsTuple "dict_keyiterator" = false:=by decide
 simp only[ow,alw,if_false];show alu _ A.in1 (if (alJ d == Value.none)=true then _ else _) _ _ s
 rw[if_neg (show ¬ (alJ d == Value.none)=true from alG)]
 refine ak1 (ak6 (ak1 (anh hod lj ?_)))
 rw[if_neg (by simp)];refine ak1 (ak6 (ak1 (aqL hod lj ?_)))
 rw[if_neg (by simp)];refine ak6 ?_
 simp only[show ¬ (i:Int)<0 by lia,if_false,al1,alV hi];refine ak1 ?_
 first|refine ak1 (anb T (ak6 (ak1 (ao0 T ?_))))|refine ak1 (anF T (ak6 (ak1 (ao0 T ?_))))
 show alu _ A.in1 (ash (.ref it) 1 (aoB ((i:Int)+1)) >>= _) _ _ s
 refine ak1 (aoT ho hd (by simp) ?_)
 have jn:(s.heap.update it (an9 (·.setIfInBounds 1 (aoB ((i:Int)+1))))).IsKeyIter it d (i+1) es.size ep:=⟨_,alO _ ho (Obj.isFreed_of_fields (aru hd _)),(Obj.cls_mapFields ..).trans hc,by rw[aru hd];simp[aoB]⟩
 refine ak1 (al6 (ak1 (ao0 (s:={ s with heap:=s.heap.update it (an9 (·.setIfInBounds 1 (aoB ((i:Int)+1)))) }) jn.typeIs ?_)))
 show alu _ A.in1 (pure es[i].key) _ _ _
 exact ak6 (ak6 ⟨_,rfl,ak6 (q _ jn (amm ..))⟩)
theorem MI {Q:Option ak3->ak7->Prop} (hh:A.handled=none) (hit:s.heap.IsKeyIter it d es.size es.size ep) (x:fz s.heap d es ep)
 (q:∀ h',asz it s.heap h'->Q none { s with heap:=h' }):alu (model prog w) A (anu (.ref it)) Q E s:=by
 obtain⟨o,ho,hc,hd⟩:=id hit
 obtain⟨od,hod,fi,lj⟩:=x
 have T:=hit.typeIs
 unfold anu
 refine ak1 (aox (amC (name:=anf "__next__") T amU (amr amU T aoq ?_ (aof _))))
 refine ak1 (ak6 (ak1 (ak1 ?_)))
 first|refine ak1 (anb T (ak6 (ak1 (aog ho hd ?_))))|refine ak1 (anF T (ak6 (ak1 (aog ho hd ?_))))
 have ow:Builtin.Dict_items.ownsTuple "dict_keyiterator" = false:=by decide
 simp only[ow,alw,if_false];show alu _ A.in1 (if (alJ d == Value.none)=true then _ else _) _ _ s
 rw[if_neg (show ¬ (alJ d == Value.none)=true from alG)]
 refine ak1 (ak6 (ak1 (anh hod lj ?_)))
 rw[if_neg (by simp)];refine ak1 (ak6 (ak1 (aqL hod lj ?_)))
 rw[if_neg (by simp)];refine ak6 ?_
 simp only[show ¬ (es.size:Int)<0 by lia,if_false,al1,anT (alm es.size)];refine ak1 ?_
 first|refine ak1 (anb T (ak6 ?_))|refine ak1 (anF T (ak6 ?_))
 show alu _ A.in1 (ash (.ref it) 0 .none >>= _) _ _ s
 refine ak1 (aoT ho hd (by simp) ?_);show alu _ A.in1 (newExc (.type "StopIteration") [] >>= _) _ _ _
 refine ak1 ?_;simp only[newExc,as2]
 refine ak1 (amd ?_ (by size_fits));refine ak1 (m:=apG _ _) (apf (a:=Value.none) (by first|rfl|(simp only[apG];rfl)) ?_)
 refine amd ?_ (by size_fits);simp only[raiseNew]
 refine ak1 (wpAny_handled ?_);rw[show A.in1.handled=none from hh]
 refine ak1 (ak6 (wpAny_throw ?_));refine ak1 (aon (T := "StopIteration") (b:=true) ⟨_,aln _ rfl,rfl⟩ aq4 ?_)
 exact ak6 (q _ (((amm ..).extBut.push _).push _))
theorem Wb (hh:A.handled=none) (I d:ala) (bK:d≠I) (es:Array anl) (ep:Nat) :
 Walks prog w A I [I,d] [I] es.size (fun i v=>∃ e,es[i]?=some e/\v=e.key) (fun i h=>h.IsKeyIter I d i es.size ep/\fz h d es ep) where
 sub:=fun b hb=>by simp at hb;simp[hb]
 frame:=fun _ _ _ st hk=>⟨st.1.at fun o e=>hk I (by simp) o e,st.2.at fun o e=>hk d (by simp) o e⟩
 item:=fun i s Q E hi st hQ=>by
  refine MH st.1 st.2 hi fun h' jn MJ=>?_
  exact hQ _ h' s.toks ⟨es[i],alV hi,rfl⟩ ⟨jn,st.2.at fun o e=>MJ.extBut d o bK e⟩ fun b o hb e=>MJ.extBut b o (fun h=>hb (by simp[h])) e
 done:=fun s Q E st hQ=>MI hh st.1 st.2 fun h' oM=>hQ h' s.toks fun b o hb e=>oM b o (fun h=>hb (by simp[h])) e
 self:=fun _ _ _ _ st hQ=>aq0 st.1 hQ
theorem MK (lo:(d == am2)=false):aq5 prog w "dict" d d es.size (fun i v=>∃ e,es[i]?=some e/\v=e.key) (fun h=>fz h d es ep) where
 type:=fun _ x=>x.ty
 there:=fun _ x=>⟨x.lt,x.lt⟩
 keep:=fun _ _ x hk=>x.at fun o e=>hk d (.inl rfl) o e
 notList:=by decide
 notTuple:=by decide
 hint:=fun _ _ _ _ x hq=>PySem.W.kdl_hint_dict x.ty hq
 iter:=fun _ _ hh x=>⟨_,_,(fun _ _ hq=>MG lo x hq),Wb hh _ d (alA x.lt) es ep,⟨⟨_,aln _ rfl,rfl,rfl⟩,x.at fun o e=>ak5 _ e⟩⟩
end
section
variable {prog:alr} {w:alS} {A:alY} {E:ak3->ak7->Prop} {s:ak7}
noncomputable def jZ (h:amH) (vs:List ak3) (kis:List (List Int)) (i:Nat):Prop:=∃ (p:ala) (o:Obj) (ai:List ak3) (m:Nat),vs[i]?=some (.ref p)/\h.get? p=some o/\o.cls = .type "tuple" /\ o.data = .seq ai.toArray m/\ap4 ai (kis.getD i [])/\ai≠[]
theorem jZ.keep {h h':amH} {vs:List ak3} {kis:List (List Int)} {i:Nat} (x:jZ h vs kis i) (k:∀ b o,h.get? b=some o->(∀ n xs,o≠am1 "list" xs n)->h'.get? b=some o):jZ h' vs kis i:=by
 obtain⟨p,o,ai,m,h1,h2,h3,r⟩:=x
 exact⟨p,o,ai,m,h1,k p o h2 (fun n xs z=>by rw[z] at h3;exact absurd (Value.type.inj h3) (by decide)),h3,r⟩
theorem Wc {ai:List ak3} {ns:List Int} (h:ap4 ai ns) (hn:ai≠[]):∃ i t,ai[0]?=some (.int i t):=by
 cases h with
 | nil=>exact absurd rfl hn
 | cons=>exact⟨_,_,rfl⟩
theorem ML {h:amH}:∀ (vs:List ak3) (kis:List (List Int)),kis.length=vs.length->(∀ i,i<vs.length->jZ h vs kis i)->∃ fs,PySem.W.KatTups h vs fs/\fs.length=vs.length/\∀ v∈fs,∃ i t,v = .int i t
 | [],_,_,_=>⟨[],PySem.W.KatTups.nil,rfl,fun v z=>by simp at z⟩
 | v::vs,[],e,_=>by simp at e
 | v::vs,k::kis,e,hh=>by
  obtain⟨p,o,ai,m,h1,h2,h3,h4,h5,h6⟩:=hh 0 (by simp)
  have LX:v = .ref p:=by simpa using h1
  subst LX
  obtain⟨i,t,hf⟩:=Wc h5 h6
  obtain⟨fs,a1,a2,a3⟩:=ML vs kis (by simpa using e) fun i hi=>by
   obtain⟨p,o,ai,m,h1,r⟩:=hh (i+1) (by simpa using hi)
   exact⟨p,o,ai,m,by simpa using h1,by simpa using r⟩
  refine⟨.int i t::fs,PySem.W.KatTups.cons h2 h3 h4 (by simpa using hf) a1,by simp[a2],fun v hv=>?_⟩
  rcases alk.mp hv with z|z
  ·exact⟨i,t,z⟩
  ·exact a3 v z
theorem We {a:ala} {vs:List ak3} {kis:List (List Int)} {n:Nat} {P:atp->ak7->Prop} (ho:s.heap.get? a=some (am1 "list" vs.toArray n)) (hl:kis.length=vs.length) (c6:vs.length<64) (hk:∀ i,i<vs.length->jZ s.heap vs kis i)
 (fin:∀ h',(∀ b o,b≠a->s.heap.get? b=some o->h'.get? b=some o)->(∃ c,h'.get? a=some (am1 "list" (am0 ((bJ (bS kis) vs.length).toList.map fun i=>vs.getD i Value.none)) c))->P (.done (.ret .none)) { s with heap:=h' }) :
 alu (model prog w) A (an0.«list.sort» ⟨[.ref a],[]⟩) P E s:=by
 rw[asA]
 have la:a<s.heap.objs.size:=alb ho
 refine ak1 (listItems_at ho rfl (ak1 (aoy ho rfl ?_ (by rw[alo,anj];walk_at "om") (alv _))))
 obtain⟨e1,oa⟩:∃ e1,(s.heap.update a (ami fun _=>(#[]:Array ak3))).get? a=some (am1 "list" #[] e1):=⟨_,aph ho fun _=>#[]⟩
 have keep:∀ b o,b≠a->s.heap.get? b=some o->(s.heap.update a (ami fun _=>(#[]:Array ak3))).get? b=some o:=fun b o z e=>(alg _ _ (al5 z)).trans e
 refine ak1 (api oa rfl ?_)
 generalize s.heap.update a (ami fun _=>(#[]:Array ak3))=g at oa keep ⊢
 refine ak1 (aq6 ?_ (by show vs.length<=_;rw[anj];walk_at "om"));refine ak1 (ap8 ?_ (alv _))
 refine al6 ?_
 show alu (model prog w) A _ P E { s with heap:=(g.push (am1 "tuple" vs.toArray 0)).push (am1 "list" #[] 0) }
 have fX:((g.push (am1 "tuple" vs.toArray 0)).push (am1 "list" #[] 0)).get? a=some (am1 "list" #[] e1):=ak5 _ (ak5 _ oa)
 have oN:∀ b o,b≠a->s.heap.get? b=some o->((g.push (am1 "tuple" vs.toArray 0)).push (am1 "list" #[] 0)).get? b=some o:=fun b o z e=>ak5 _ (ak5 _ (keep b o z e))
 generalize (g.push (am1 "tuple" vs.toArray 0)).push (am1 "list" #[] 0)=g2 at fX oN ⊢
 dsimp only
 have neT:∀ b o,s.heap.get? b=some o->(∀ n xs,o≠am1 "list" xs n)->b≠a:=fun b o e z y=>by rw[y,ho] at e;cases e;exact z _ _ rfl
 have Ai:((bJ (bS kis) vs.length).toList.map fun i=>vs.getD i Value.none).length=vs.length:=by
  rw[ak8,(kU (n:=vs.length) (jg kis)).1.length_eq,alN]
 have sz:(am0 ((bJ (bS kis) vs.length).toList.map fun i=>vs.getD i Value.none)).size<=alI+1:=by rw[alo,Ai,anj];walk_at "om"
 have done:P (.done (.ret .none)) { s with heap:=g2.update a (ami fun _=>am0 ((bJ (bS kis) vs.length).toList.map fun i=>vs.getD i Value.none)) } :=
  fin _ (fun b o z e=>(alg _ _ (al5 z)).trans (oN b o z e)) ⟨_,aph fX fun _=>_⟩
 by_cases h2:vs.toArray.size<2
 ·rw[if_pos h2,if_pos h2]
  refine ak1 (ak6 ?_)
  rw[StateT.run_pure]
  refine ak1 (ak6 ?_)
  dsimp only
  have self:(al4 vs.length).map (fun i=>vs.getD i Value.none)=vs:=by
   apply aqd
   ·simp
   ·intro i h1 h2
    simp[ak4,h2]
  have e0:(arrOf (SortSt.mk' general' (vs.toArray.zip vs.toArray) #[] 7 none)).map (·.2)=am0 ((bJ (bS kis) vs.length).toList.map fun i=>vs.getD i Value.none):=by
   unfold bJ
   rw[if_pos (by simpa using h2)]
   apply ar5.mp
   rw[show (al4 vs.length).toArray.toList=al4 vs.length from rfl,self]
   show ((vs.toArray.zip vs.toArray).map (·.2)).toList=_
   simp[ar6]
  rw[e0]
  refine ak1 (api fX rfl (ak1 (aoy fX rfl ?_ (alv _) sz)))
  simp only[bne_self_eq_false,alw,if_false]
  exact ak6 done
 ·rw[if_neg h2,if_neg h2]
  have sr:2<=vs.length:=by rw[alo] at h2;walk_at "om"
  have dk:∀ i,i<vs.length->jZ g2 vs kis i:=fun i hi=>(hk i hi).keep fun b o e z=>oN b o (neT b o e z) e
  obtain⟨fs,ht,lf,hi⟩:=ML vs kis hl dk
  have eT:(aoG "int" != aoG "tuple")=true:=by decide
  refine ak1 (PySem.W.kat_kind (s:={ s with heap:=g2 }) (T:=.type "int") ht (by walk_at "om") (fun v hv=>?_) (by decide) ?_)
  ·obtain⟨i,t,rfl⟩:=hi v hv
   exact PySem.W.Looks.now
  rw[eT]
  have ask:(ar7 vs.length).kasWp (asB prog w A (tuples' true) vs) (fun p s'=>s' = { s with heap:=g2 }/\p=bJ (bS kis) vs.length) { s with heap:=g2 }:=by
   have pv:=zB _ (zA (n:=vs.length) (jg kis) (by walk_at "om"))
   refine zx (lt:=bS kis) (n:=vs.length) (Ok:=fun s'=>s' = { s with heap:=g2 }) (fun i j C s' hi hj e q=>?_) (fun p s' e q=>⟨e,?_⟩) _ _ rfl pv
   ·subst e
    obtain⟨p1,o1,i1,m1,a1,b1,_,c1,d1,_⟩:=dk i hi
    obtain⟨p2,o2,i2,m2,a2,b2,_,c2,d2,_⟩:=dk j hj
    show alu _ _ (keyLt' (tuples' true) (vs.getD i Value.none) (vs.getD j Value.none)) C _ _
    rw[ak4,ak4,a1,a2]
    have z1:=d1.length
    have z2:=d2.length
    exact PySem.W.kat_lt b1 c1 b2 c2 (by simpa using Vd (b:=true) (i:=0) d1 d2 (by simp[z1,z2]) (q _ rfl))
   ·rw[q];unfold bJ;rw[if_neg (by walk_at "om")]
  refine ak1 (amc (asC (κ:=tuples' true) (ks:=vs) (vs:=vs) (Q:=fun st s'=>s' = { s with heap:=g2 }/\arrOf st=(bJ (bS kis) vs.length).map (ar8 (vs.toArray.zip vs.toArray))/\failedOf st=none)
   rfl sr c6 (fun p st s' b1 b2 b3 b4=>⟨b4.1,by rw[b2,b4.2],b3⟩) ask) ?_ fun _ _ z=>z)
  rintro ⟨⟨⟩,st⟩ s' ⟨rfl,har,hf⟩
  dsimp only
  rw[ar9 rfl har]
  refine ak1 (api fX rfl (ak1 (aoy fX rfl ?_ (alv _) sz)))
  rw[hf]
  simp only[bne_self_eq_false,alw,if_false]
  exact ak6 done
theorem MM {r:ala} {vs:List ak3} {kis:List (List Int)} {Q:ak3->ak7->Prop} (hl:kis.length=vs.length) (c6:vs.length<64) (hk:∀ i,i<vs.length->jZ s.heap vs kis i)
 (Aj:∀ (A':alY) (Q':List ak3->ak7->Prop) (E':ak3->ak7->Prop),A'.handled=A.handled->(∀ h' tk,(∀ b o,s.heap.get? b=some o->h'.get? b=some o)->s.heap.objs.size<=h'.objs.size->Q' vs { s with heap:=h',toks:=tk })->alu (model prog w) A' (collect (.ref r)) Q' E' s)
 (q:∀ l h' tk,s.heap.objs.size<=l->(∀ b o,s.heap.get? b=some o->h'.get? b=some o)->(∃ c,h'.get? l=some (am1 "list" (am0 ((bJ (bS kis) vs.length).toList.map fun i=>vs.getD i Value.none)) c))->Q (.ref l) { s with heap:=h',toks:=tk }) :
 alu (model prog w) A (call (.builtin "sorted") [.ref r]) Q E s:=by
 refine aoh kind_sorted plain_sorted entry_sorted (args_sorted1 _) ?_
 unfold an0.«sorted»
 refine ak1 (m:=checkCount "sorted" 1 1 _) (ak6 (ak1 (Aj _ _ _ rfl fun h1 tk keep hsz=>?_)))
 refine ak1 (ap8 ?_ (by rw[anj];walk_at "om"))
 have oL:(h1.push (am1 "list" vs.toArray 0)).get? h1.objs.size=some (am1 "list" vs.toArray 0):=aln _ rfl
 have iF:∀ b o,s.heap.get? b=some o->b≠h1.objs.size/\(h1.push (am1 "list" vs.toArray 0)).get? b=some o:=fun b o e=>by
  have:=alb e
  exact⟨by walk_at "om",ak5 _ (keep b o e)⟩
 show alu _ A.in1 (holding [.ref h1.objs.size] (call (.builtin "list.sort") [.ref h1.objs.size]) >>= _) _ _ { s with heap:=h1.push (am1 "list" vs.toArray 0),toks:=tk }
 generalize h1.push (am1 "list" vs.toArray 0)=h2 at oL iF ⊢
 generalize h1.objs.size=l at oL iF hsz ⊢
 refine ak1 (al6 (amr slot_list_sort ⟨_,oL,rfl⟩ asD ?body (args_list_sort _)))
 case body =>
  refine We (s:={ s with heap:=h2,toks:=tk }) oL hl c6 (fun i hi=>(hk i hi).keep fun b o e _=>(iF b o e).2) fun h' k c=>⟨_,rfl,ak6 ⟨_,rfl,q l h' tk hsz (fun b o e=>k b o (iF b o e).1 (iF b o e).2) c⟩⟩
theorem MN {T:String} {r d:ala} {n:Nat} {P:Nat->ak3->Prop} {OK:amH->Prop} {Q:List ak3->ak7->Prop} (K:aq5 prog w T r d n P OK) (hh:A.handled=none) (ao:OK s.heap) (hn:n<=alI)
 (q:∀ h' tk acc,(∀ b o,s.heap.get? b=some o->h'.get? b=some o)->s.heap.objs.size<=h'.objs.size->ItemsOf P acc n->Q acc.toList { s with heap:=h',toks:=tk }):alu (model prog w) A (collect (.ref r)) Q E s:=by
 have lt:=K.there _ ao
 unfold collect
 refine ak1 (wpAny_runValue (alZ entry_proto_collect' ?_))
 rw[alL PySem.F.plain_proto_collect _]
 show alu _ A.in1 (as0 [] >>= fun l=>again (.builtin "list.__iadd__" ⟨[l,.ref r],[]⟩)) _ _ s
 refine ak1 (amd (ak6 ⟨Code.quiet_builtin _ (by decide +kernel),alZ entry_list_iadd' ?_⟩))
 rw[alL PySem.F.plain_list_iadd _]
 have oS:(s.heap.push { cls:=.type "list",data:=.seq ([]:List ak3).toArray }).get? s.heap.objs.size=some { cls:=.type "list",data:=.seq #[] 0 }:=aln _ rfl
 show alu _ A.in1 (ano (.ref s.heap.objs.size) (.ref r) (.ref s.heap.objs.size)) _ _ { s with heap:=s.heap.push { cls:=.type "list",data:=.seq ([]:List ak3).toArray } }
 refine PySem.W.kdl_extend (R:=fun r s'=>match r with
  | .ok (.ret v)=>alu (model prog w) A (match v with|.ref a=>(do match (<- load a).data with|.seq xs _=>pure xs.toList|_=>unsupported "internal:collect")|_=>unsupported "internal:collect") Q E s'
  | .ok _=>False
  | .error e=>E e s') (s:={ s with heap:=s.heap.push { cls:=.type "list",data:=.seq ([]:List ak3).toArray } }) K hh (K.keep _ _ ao fun b _ o e=>ak5 _ e) s.heap.objs.size (amj lt.1) (amj lt.2) (.ref s.heap.objs.size) 0 oS (fun h' tk acc c hk hS fA=>?_) hn
 show alu _ A (load s.heap.objs.size >>= _) _ _ _
 refine ak1 (wpAny_load hS (ak6 ?_))
 exact q h' tk acc (fun b o e=>hk b o (alA (alb e)) (ak5 _ e)) (aoW (alb hS)) fA
end
noncomputable def gB (H:Hp) (xs:List V) (kvs:List (List Key × V)):Prop:=ay (fun x (kv:List Key × V)=>∃ a,x = .ref a/\H a=some (.tup (kv.1.map kV))) xs kvs
theorem KT.MO {H:Hp} {kvs:List (List Key × V)} {xs:List (List Key × ala × ak3)} (r:KT H kvs xs):gB H ((xs.map (·.2.1)).map V.ref) kvs:=by
 induction r with
 | nil=>exact trivial
 | cons h t ih=>exact⟨⟨_,rfl,h.2.1⟩,ih⟩
theorem gB.MP {K:ak2} {H:Hp}:∀ {ys:List V} {kvs:List (List Key × V)} {kis:List (List Int)},gB H ys kvs->kvs.map (·.1)=kis.map (fun k=>k.map ap2)->(∀ k∈kis,k≠[])->fU K H ys kis
 | [],[],[],_,_,_=>trivial
 | [],[],_::_,_,e,_=>by simp at e
 | _::_,kv::kvs,[],_,e,_=>by simp at e
 | y::ys,kv::kvs,k::kis,h,e,hn=>by
  rw[alH,alH] at e
  injection e with e1 e2
  obtain⟨⟨a,rfl,ha⟩,t⟩:=h
  refine⟨⟨a,rfl,?_,hn k (.head _)⟩,gB.MP t e2 fun k hk=>hn k (.tail _ hk)⟩
  rw[e1,anI] at ha
  exact .inl (.inl ha)
 | [],_::_,_,h,_,_=>h.elim
 | _::_,[],_,h,_,_=>h.elim
theorem Ak:∀ (as:List ala),Vals (as.map V.ref) (as.map alJ)
 | []=>.nil
 | _::as=>.cons rfl (Ak as)
section
variable {X:Cx} {pins:List (ala × Obj)} {σ:L2.St} {H:Hp} {s:ak7} {p:ala} {kvs:List (List Key × V)}
theorem MQ (I:Inv X pins σ H s) (e:H p=some (.dT kvs)):∃ (as:List ala) (es:Array anl) (ep:Nat),gB H (as.map V.ref) kvs/\(p == am2)=false/\fz s.heap p es ep/\es.size=as.length/\(∀ acc:Array ak3,ItemsOf (fun i v=>∃ e,es[i]?=some e/\v=e.key) acc es.size->acc.toList=as.map alJ)/\as.length<=alI:=by
 obtain⟨z,hd,xs,rel,o,es,ep,ho,hc,hdt,he,his,hn⟩:=vI I.ao e
 have hl:xs.length=kvs.length:=(Paired.length rel).symm
 have hs:es.size=xs.length:=an2 he
 refine⟨xs.map (·.2.1),es,ep,KT.MO rel,hd,⟨o,ho,hc,hdt⟩,by rw[ak8];exact hs,fun acc ha=>?_,by rw[ak8,hl];exact z⟩
 refine aoP fun i=>?_
 rw[alz,alz]
 have la:acc.toList.length=es.size:=by rw[anJ];exact ha.1
 by_cases hi:i<es.size
 ·obtain⟨v,hv⟩:∃ v,acc.toList[i]?=some v:=⟨_,ak9 (by lia)⟩
  obtain⟨en,h1,h2⟩:=ha.2 i v (by rw[<- ao1];exact hv)
  rw[entry_at he i] at h1
  cases hx:xs[i]? with
  | none=>rw[hx] at h1;cases h1
  | some y=>rw[hx] at h1;cases h1;rw[hv,h2];rfl
 ·rw[am4 (by lia),am4 (by lia)];rfl
theorem MR (hc:X.calm=true):fN X (.type "list") (fun xs H Q=>∃ p kvs,xs=[.ref p]/\H p=some (.dT kvs)/\∀ l ys,H l=none->gB H ys kvs->Q (.ref l) (upd H l (.lst ys))):=by
 intro pins s σ H xs us Q I r h
 obtain⟨p,kvs,rfl,e,q⟩:=h
 obtain⟨u,rfl,rx⟩:=vals1 r
 cases rx
 obtain⟨as,es,ep,hk,lo,ra,hs,fA,hz⟩:=MQ I e
 refine PySem.W.kdl_call (MK lo) (I.ok.hd hc) ra (by rw[hs];exact hz) fun h' tk acc c keep hD ha=>?_
 have ea:=fA acc ha
 exact⟨.ref s.heap.objs.size,_,I.laid (t':=tk) keep (alm _) (show bD X.prog X.w _ h' _ (.lst (as.map V.ref)) from ⟨by rw[ak8];exact hz,as.map alJ,c,Ak as,by rw[<- ea,aq1];exact hD⟩),rfl,q _ _ (I.ao.fresh (alm _)) hk⟩
theorem MS (I:Inv X pins σ H s) {ks:List V} {kis:List (List Int)} {us:List ak3} (h:fU X.K H ks kis) (r:Vals ks us):∀ i,i<us.length->jZ s.heap us kis i:=fun i hi=>by
 have hk:i<ks.length:=by rw[r.length];exact hi
 have Wf:i<kis.length:=by rw[<- h.len];exact hk
 obtain⟨p,ep,hp⟩:=h.get (ak9 hk)
 obtain⟨u,eu,ru⟩:=r.get (ak9 hk)
 rw[ep] at ru
 cases ru
 obtain⟨ai,rv,⟨o,ho,hc,m,hd⟩,_⟩:=I.tuple hp
 refine⟨p,o,ai,m,eu,ho,hc,hd,intsAre_of rv,fun z=>?_⟩
 have nn:kis.getD i []≠[]:=by
  have all:∀ {ks:List V} {ns:List (List Int)},fU X.K H ks ns->∀ n∈ns,n≠[]:=by
   intro ks
   induction ks with
   | nil=>intro ns h n hn;cases ns with
    | nil=>simp at hn
    | cons _ _=>exact h.elim
   | cons k ks ih=>intro ns h n hn;cases ns with
    | nil=>exact h.elim
    | cons m ns =>
     obtain⟨⟨_,_,_,bK⟩,t⟩:=h
     rcases alk.mp hn with z|z
     ·rw[z];exact bK
     ·exact ih t n z
  rw[ak4,ak9 Wf]
  exact all h _ (ao3 _)
 have:=rv.length
 rw[ak8,z] at this
 exact nn (amY.mp this)
theorem Al (I:Inv X pins σ H s) {ks:List V} {kis:List (List Int)} {us:List ak3} {Q:VK} {l:ala} {h':amH} {tk:Nat} (r:Vals ks us) (hz:ks.length<=alI) (hl:s.heap.objs.size<=l) (keep:∀ b o,s.heap.get? b=some o->h'.get? b=some o)
 (hD:∃ c,h'.get? l=some (am1 "list" (am0 ((bJ (bS kis) us.length).toList.map fun i=>us.getD i Value.none)) c)) (q:∀ l,H l=none->Q (.ref l) (upd H l (.lst (cR kis .non ks)))):EP X pins σ Q (.ref l) { s with heap:=h',toks:=tk }:=by
 obtain⟨c,hD⟩:=hD
 have sv:=Ve (kis:=kis) r
 rw[r.length] at sv
 exact⟨.ref l,_,I.laid (t':=tk) keep hl (show bD X.prog X.w _ h' _ (.lst (cR kis .non ks)) from ⟨by rw[LY];exact hz,_,c,sv,hD⟩),rfl,q l (I.ao.fresh hl)⟩
theorem Wg:fN X (.builtin "sorted") (fun xs H Q=>∃ (a:ala) (ks:List V) (kis:List (List Int)),xs=[.ref a]/\ah X.K H a ks/\fU X.K H ks kis/\ks.length<64/\∀ l,H l=none->Q (.ref l) (upd H l (.lst (cR kis .non ks)))):=by
 intro pins s σ H xs us Q I r h
 obtain⟨a,ks,kis,rfl,hS,hK,c6,q⟩:=h
 obtain⟨u,rfl,ru⟩:=vals1 r
 cases ru
 obtain⟨ai,rv,hp,hz⟩:=I.list hS
 have hl:ai.length=ks.length:=rv.length.symm
 refine MM (kis:=kis) (by rw[<- hK.len,hl]) (by lia) (MS I hK rv) (fun A' Q' E' _ hq=>collect_list hp.isList (hq _ s.toks (fun b o e=>?_) ?_) (by rw[hl];exact hz)) fun l h' tk h1 h2 h3=>Al I rv hz h1 h2 h3 q
 ·have:=alb e
  exact (alg _ _ (by walk_at "om")).trans (ak5 _ e)
 ·rw[Heap.size_update,size_push'];exact aoK _
theorem Wh (hc:X.calm=true):fN X (.builtin "sorted") (fun xs H Q=>∃ (p:ala) (kvs:List (List Key × V)) (kis:List (List Int)),xs=[.ref p]/\H p=some (.dT kvs)/\kvs.map (·.1)=kis.map (fun k=>k.map ap2)/\(∀ k∈kis,k≠[])/\kvs.length<64 /\
 ∀ l ys,H l=none->gB H ys kvs->Q (.ref l) (upd H l (.lst (cR kis .non ys)))):=by
 intro pins s σ H xs us Q I r h
 obtain⟨p,kvs,kis,rfl,e,ek,bK,c6,q⟩:=h
 obtain⟨u,rfl,rx⟩:=vals1 r
 cases rx
 obtain⟨as,es,ep,hk,lo,ra,hs,fA,hz⟩:=MQ I e
 have la:as.length=kvs.length:=by have:=hk.len;rwa [ak8] at this
 have lk:kis.length=kvs.length:=by have:=congrArg List.length ek;simpa using this.symm
 have hK:fU X.K H (as.map V.ref) kis:=hk.MP ek bK
 have rv:=Ak as
 refine MM (kis:=kis) (vs:=as.map alJ) (by rw[ak8];lia) (by rw[ak8];lia) (MS I hK rv) (fun A' Q' E' hA hq=>MN (MK lo) (hA.trans (I.ok.hd hc)) ra (by rw[hs];exact hz) fun h' tk acc k1 k2 ha=>?_) fun l h' tk h1 h2 h3=>Al I rv (by rw[ak8];exact hz) h1 h2 h3 fun l hl=>q l _ hl hk
 rw[fA acc ha]
 exact hq h' tk k1 k2
end
theorem Wi {P:alr} {w:alS} {H':Hp} {h':amH} {a:ala} {kvs:List (List Key × V)} {xs:List (List Key × ala × ak3)} (z:kvs.length<=alI) (lo:(a == am2)=false) (rel:KT H' kvs xs) (dd:h'.DictOfH (apa (dS P w)) a xs):bD P w H' h' a (.dT kvs):=by
 obtain⟨o,es,ep,h1,h2,h3,h4,_,h5⟩:=dd
 exact⟨z,lo,xs,rel,o,es,ep,h1,h2,h3,h4,h5⟩
section
variable {X:Cx} {pins:List (ala × Obj)} {σ:L2.St} {H:Hp} {s:ak7} {p b:ala} {kvs:List (List Key × V)} {k:List Key} {A:alY} {E:ak3->ak7->Prop}
theorem Wj {ob:HO} {xs:List (List Key × ala × ak3)} (e:H p=some (.dT kvs)) {oO:List (List Key × V)} (r:KT H oO xs):KT (upd H p ob) oO xs :=
 KT.keeps r fun b ys z=>by rw[aH (fun y=>by rw[y,e] at z;cases z)];exact z
theorem Wk {more:List ak3} {Q:ak3->ak7->Prop} (hu:A.units+1<apr) (I:Inv X pins σ H s) (e:H p=some (.dT kvs)) (eb:H b=some (.tup (k.map kV))) (hm:more=[] ∨ ∃ x,more=[x])
 (h1:∀ v,bF kvs k=some v->∀ w' s',Inv X pins σ (upd H p (.dT (ja kvs k))) s'->RelV v w'->Q w' s') (h0:bF kvs k=none->∃ x,more=[x]/\∀ s',Inv X pins σ H s'->Q x s') :
 alu (model X.prog X.w) A (call (.builtin "dict.pop") (.ref p :: .ref b::more)) Q E s:=by
 obtain⟨z,lo,xs,rel,dd⟩:=vI I.ao e
 have hl:xs.length=kvs.length:=(Paired.length rel).symm
 refine Wa (am9 hu) (oo I.ao eb) lo dd (by rw[hl];exact z) hm (fun y hy h' tk kN hs=>?_) fun hn=>?_
 ·have rv:=rel.val k
  rw[hy] at rv
  cases hv:bF kvs k with
  | none=>rw[hv] at rv;exact (show False from rv).elim
  | some v =>
   rw[hv] at rv
   have he:∃ q,h'.get? p=some q:=let ⟨q,_,_,hq,_⟩:=kN;⟨q,hq⟩
   exact h1 v hv _ _ (zj (t':=tk) I (by rw[e];exact anE) hs he (Wi (alp (Ud kvs k) z) lo (Wj e (KT.out rel k)) kN)) rv
 ·have rv:=rel.val k
  rw[hn] at rv
  cases hv:bF kvs k with
  | some v=>rw[hv] at rv;exact (show False from rv).elim
  | none =>
   obtain⟨x,ex,q⟩:=h0 hv
   exact⟨x,ex,fun tk=>q _ (I.tok tk)⟩
end
noncomputable def MT (td ty:TE):TE:=fun σ H Q=>td σ H fun x H1=>∃ a,x = .ref a/\Ls H1 a/\ty σ H1 fun y H2=>∃ b kvs k v,y = .ref b/\H2 a=some (.dT kvs)/\H2 b=some (.tup (k.map kV))/\bF kvs k=some v/\Q v (upd H2 a (.dT (ja kvs k)))
section
variable {X:Cx} {o e f:am7} {td ty tx:TE} {apos cg:Pos}
theorem MU (hu:X.A.units+1<apr) (ho:PE X o td) (he:PE X e ty) (m:M1 X o "pop" apos e cg):PE X (.Call (.Attribute o "pop" apos) [e] [] cg) (MT td ty):=by
 intro pins s σ H Q I h
 refine wpAny_Call_method m.base m.few m.line PySem.F.plainAttrs_dict aqK PySem.F.type_dict_pop (aC (ho pins s σ H _ I h) fun u s1 ⟨x,H1,I1,rx,a,ex,d,q1⟩=>?_)
 subst ex;obtain rfl:u=alJ a:=rx
 obtain⟨t1,t2,_⟩:=Uo I1 d
 refine⟨t1,t2,?_⟩;rw[m.trees]
 refine aoC rfl (ao6 (anU (aC (he pins s1 σ H1 _ I1 q1) fun iv s2 ⟨y,H2,I2,ry,b,kvs,k,v,ey,ea,eb,l,q2⟩=>an7 ?_)))
 subst ey;obtain rfl:iv=alJ b:=ry
 exact Wk hu I2 ea eb (.inl rfl) (fun v' l' w' s3 I3 gU=>⟨v',_,I3,gU,by rw[l] at l';cases l';exact q2⟩) fun l'=>by rw[l] at l';cases l'
theorem Wl:fN X (.builtin "len") (fun xs H Q=>∃ p kvs,xs=[.ref p]/\H p=some (.dT kvs)/\Q (.int kvs.length) H):=by
 intro pins s σ H xs us Q I r h
 obtain⟨p,kvs,rfl,e,q⟩:=h
 obtain⟨u,rfl,rx⟩:=vals1 r
 cases rx
 obtain⟨z,lo,xs,rel,o,es,ep,ho,hc,hdt,he,his,hn⟩:=vI I.ao e
 have hs:es.size=kvs.length:=(an2 he).trans (Paired.length rel).symm
 have T:s.TypeIs (.ref p) "dict" := ⟨o,ho,hc.1⟩
 have g:MeetsIn X.prog X.w (an0.«dict.__len__» ⟨[.ref p],[]⟩) (fun _ R s=>s.heap.get? p=some o/\R (.ok (.ret (.int kvs.length s.toks))) { s with toks:=s.toks+1 }):=.of_wp fun A R s ⟨ho,h⟩=>by
  show alu _ _ (dictSize p >>= _) _ _ s
  unfold dictSize
  refine ak1 (ak1 (anh ho hdt (ak6 ?_)));show alu _ _ (Builtin.Dict.pendingCount p >>= _) _ _ s
  refine ak1 (wpAny_pendingCount_other lo (wpAny_ret_mkInt ?_))
  rw[atd,hs];exact h
 refine aoh kind_len plain_len entry_len (args_len1 _) ?_
 unfold an0.«len»
 refine ak1 (m:=oneArg "len" _) (ak6 (ak1 (m:=callSpecial? (.ref p) (anf "__len__")) (amC (name:=anf "__len__") T aqM (call_meetsIn aqM T PySem.F.entry_dict_len (PySem.F.args_dict_len_1 _) g ⟨ho,?_⟩))))
 show alu _ _ _ _ _ { s with toks:=s.toks+1 }
 refine ak1 (al6 (ak6 (ak1 (amP ?_))))
 show alu _ _ (if ((kvs.length:Nat):Int)<0 then _ else _) _ _ _;rw[if_neg (by lia)]
 rw[anj] at z
 show alu _ _ (if ((kvs.length:Nat):Int) ≥ 2 ^ 63 then _ else _) _ _ _;rw[if_neg (by lia)]
 exact ak1 (wpAny_mkInt (ak6 ⟨_,rfl,.int kvs.length,H,I.tok _,⟨_,rfl⟩,q⟩))
end
section
variable {prog:alr} {w:alS} {K:Type} [DecidableEq K] {knd:KeyKind prog w K} {A:alY} {E:ak3->ak7->Prop} {s:ak7} {o d:ala} {es:Array anl} {ep:Nat}
end
end Gz
namespace Gz
open PySem PySem.Spec PyProof.Rows L2
local macro_rules | `(tactic| walk_at "om") => `(tactic| ((try simp only [PySem.Addr] at *); lia))
section
variable {prog:alr} {w:alS} {A:alY} {E:ak3->ak7->Prop} {s:ak7}
end
section
variable {prog:alr} {w:alS} {A:alY} {E:ak3->ak7->Prop} {s:ak7}
end
section
variable {X:Cx} {pins:List (ala × Obj)} {σ:L2.St} {H:Hp} {s:ak7}
end
end Gz
namespace Gz
open PySem PySem.Spec PyProof.Rows L2
theorem bb {c:Prop} [Decidable c] {a b:Prop} (h:c->a) (h':¬ c->b):if c then a else b:=by
 by_cases z:c
 ·rw[if_pos z];exact h z
 ·rw[if_neg z];exact h' z
theorem Ln {P:alr} {w:alS} {H:Hp} (h:amH) (hb:am2<h.objs.size):bD P w H (h.push { cls:=.type "dict",data:=.dict #[] }) h.objs.size (.dK []) :=
 ⟨alv _,beq_eq_false_iff_ne.mpr (al5 (alA hb)),[],.nil,Heap.DictOf.new h⟩
section
variable {X:Cx} {pos:Pos}
theorem Inv.Wm {pins:List (ala × Obj)} {σ:L2.St} {H:Hp} {s:ak7} (I:Inv X pins σ H s):am2<s.heap.objs.size:=by
 have h:ale<s.heap.objs.size:=(I.mod.glob.keeps I.bk).lt
 exact ate (by decide) h
noncomputable def MV:TE:=fun _ H Q=>∀ p,H p=none->Q (.ref p) (upd H p (.dT []))
theorem MW:PE X (.Dict [] [] pos) MV:=fun pins s σ H Q I h=>wpAny_Dict_empty
 ⟨.ref s.heap.objs.size,_,I.laid (a:=s.heap.objs.size) (o:=.dT []) (t':=s.toks) (fun _ _ z=>ak5 _ z) (alm _)
  ⟨alv _,beq_eq_false_iff_ne.mpr (al5 (alA (Inv.Wm I))),[],.nil,_,#[],0,aln _ rfl,⟨rfl,rfl,rfl⟩,rfl,rfl,aoU⟩,rfl,h _ (I.ao.fresh (alm _))⟩
theorem MX {x:Str} {n:Int} (h:∃ t,X.mg x=some (.int n t)) (hg:Gl X x) (hd:(x == ("__debug__" : Str))=false:=by decide):PE X (.Name x pos) (tC (.int n)):=by
 obtain⟨t,ht⟩:=h
 exact Si (v:=.int n) hg ht ⟨t,rfl⟩ hd
end
end Gz
namespace Gz
open PySem PySem.Spec PyProof.Rows L2
local macro_rules | `(tactic| walk_at "om") => `(tactic| ((try simp only [PySem.Addr] at *); lia))
section
variable {M:Model} {A:alY} {E:ak3->ak7->Prop} {s:ak7} {B:amH} {l outer:List Env} {env:Env} {L x C:ala} {cls a0 mk:ak3} {Q:Unit->ak7->Prop}
end
section
variable {P:alr} {w:alS} {K:ak2} {mg:Str->Option ak3} {base:amH} {N:List Str} {qual:Str} {scope:apo} {f:ala} {cd:ak3} {A:alY} {outer:List Env} {s:ak7} {H:Hp} {E:XK}
end
section
variable {X:Cx} {pins:List (ala × Obj)} {σ:L2.St} {H2:Hp} {s2:ak7} {x:Str} {px pos:Pos} {elt iter:am7} {ifs:List am7} {scope:apo} {cl:List (Str × ala)} {fr:List Nat} {ys:List Str} {tt:TT} {te:TE}
end
section
variable {X:Cx} {F:ak3->ak7->Prop} {pins pn:List (ala × Obj)} {σ:L2.St} {H:Hp} {s:ak7} {A':alY}
end
end Gz
namespace Gz
open PySem PySem.Spec PyProof.Rows L2
noncomputable def oz (ks:List P2) (r:Int) (i:Nat):Bool:=decide ((aK ks i).1<=r) && decide (r<=(aK ks (i+1)).1)
end Gz
namespace Gz
open PySem PySem.Spec PyProof.Rows L2
local macro_rules | `(tactic| walk_at "om") => `(tactic| ((try simp only [PySem.Addr] at *); lia))
theorem MY {X:Cx} {A:alY} {o i:am7} {pos:Pos} {td ty:TE} (hu:A.units+1<apr) (ho:PE X o td) (hi:PE X i ty) (hs:zk i) (eA:X.A=A:=by rfl):PE X (.Subscript o i pos) (zm td ty):=by
 subst eA;exact kO hu ho hi hs
noncomputable abbrev Tb:=List (P2 × S2)
noncomputable def aZ (i j:Int):List Key:=[.inl i,.inl j]
theorem vZ {a b:P2} (h:aZ a.1 a.2=aZ b.1 b.2):a=b:=by
 unfold aZ at h
 injection h with h1 h2
 injection h2 with h2 _
 exact Prod.ext (Sum.inl.inj h1) (Sum.inl.inj h2)
noncomputable def eN (tb:Tb) (s:P2):Option S2:=(tb.find? fun r=>decide (r.1=s)).map (·.2)
noncomputable def dm (tb:Tb) (s:P2) (w:S2):Tb:=if (tb.any fun r=>decide (r.1=s))=true then tb.map (fun r=>if r.1=s then (r.1,w) else r) else tb++[(s,w)]
noncomputable def lq (tb:Tb) (s:P2):Tb:=tb.filter fun r=>decide (r.1≠s)
noncomputable def a9 (H:Hp):List (List Key × V)->Tb->Prop
 | [],[]=>True
 | kv::kvs,r::tb=>(kv.1=aZ r.1.1 r.1.2/\aV H kv.2 r.2.1 r.2.2)/\a9 H kvs tb
 | _,_=>False
section
variable {H H':Hp} {kvs:List (List Key × V)} {tb:Tb}
theorem a9.len:∀ {kvs:List (List Key × V)} {tb:Tb},a9 H kvs tb->kvs.length=tb.length
 | [],[],_=>rfl
 | _::kvs,_::tb,h=>congrArg (· + 1) (a9.len (kvs:=kvs) (tb:=tb) h.2)
 | [],_::_,h=>h.elim
 | _::_,[],h=>h.elim
theorem a9.imp (f:∀ v a b,aV H v a b->aV H' v a b):∀ {kvs:List (List Key × V)} {tb:Tb},a9 H kvs tb->a9 H' kvs tb
 | [],[],_=>trivial
 | _::kvs,_::tb,h=>⟨⟨h.1.1,f _ _ _ h.1.2⟩,a9.imp f (kvs:=kvs) (tb:=tb) h.2⟩
 | [],_::_,h=>h.elim
 | _::_,[],h=>h.elim
theorem a9.app:∀ {kvs oO:List (List Key × V)} {tb br:Tb},a9 H kvs tb->a9 H oO br->a9 H (kvs++oO) (tb++br)
 | [],_,[],_,_,h=>h
 | _::kvs,oO,_::tb,br,h,h'=>⟨h.1,a9.app (kvs:=kvs) (tb:=tb) h.2 h'⟩
 | [],_,_::_,_,h,_=>h.elim
 | _::_,_,[],_,h,_=>h.elim
theorem a9.keys:∀ {kvs:List (List Key × V)} {tb:Tb},a9 H kvs tb->kvs.map (·.1)=tb.map fun r=>aZ r.1.1 r.1.2
 | [],[],_=>rfl
 | kv::kvs,r::tb,h=>by rw[alH,alH,h.1.1,a9.keys (kvs:=kvs) (tb:=tb) h.2]
 | [],_::_,h=>h.elim
 | _::_,[],h=>h.elim
theorem a9.any (s:P2):∀ {kvs:List (List Key × V)} {tb:Tb},a9 H kvs tb->(kvs.any fun kv=>decide (kv.1=aZ s.1 s.2))=tb.any fun r=>decide (r.1=s)
 | [],[],_=>rfl
 | kv::kvs,r::tb,h=>by
  rw[amN,amN,a9.any s (kvs:=kvs) (tb:=tb) h.2,h.1.1]
  congr 1
  by_cases e:r.1=s
  ·rw[e,decide_eq_true rfl,decide_eq_true rfl]
  ·rw[decide_eq_false e,decide_eq_false fun z=>e (vZ z)]
 | [],_::_,h=>h.elim
 | _::_,[],h=>h.elim
theorem a9.val (s:P2):∀ {kvs:List (List Key × V)} {tb:Tb},a9 H kvs tb->(eN tb s=none->bF kvs (aZ s.1 s.2)=none)/\∀ w,eN tb s=some w->∃ v,bF kvs (aZ s.1 s.2)=some v/\aV H v w.1 w.2
 | [],[],_=>⟨fun _=>rfl,fun w h=>by cases h⟩
 | kv::kvs,r::tb,h=>by
  have ih:=a9.val s (kvs:=kvs) (tb:=tb) h.2
  by_cases e:r.1=s
  ·have e1:eN (r::tb) s=some r.2:=by simp[eN,amX,e]
   rw[e1,gu (h.1.1.trans (by rw[e]))]
   exact⟨fun z=>(by cases z),fun w z=>(by cases z;exact⟨_,rfl,h.1.2⟩)⟩
  ·have e1:eN (r::tb) s=eN tb s:=by simp[eN,amX,e]
   rw[e1,gv (fun z=>e (vZ (h.1.1.symm.trans z)))]
   exact ih
 | [],_::_,h=>h.elim
 | _::_,[],h=>h.elim
theorem a9.oi {s:P2} {v:V} {w:S2} (hv:aV H v w.1 w.2):∀ {kvs:List (List Key × V)} {tb:Tb},a9 H kvs tb->a9 H (kvs.map fun kv=>if kv.1=aZ s.1 s.2 then (kv.1,v) else kv) (tb.map fun r=>if r.1=s then (r.1,w) else r)
 | [],[],_=>trivial
 | kv::kvs,r::tb,h=>by
  rw[alH,alH]
  refine⟨?_,a9.oi hv (kvs:=kvs) (tb:=tb) h.2⟩
  by_cases e:r.1=s
  ·rw[if_pos e,if_pos (h.1.1.trans (by rw[e]))];exact⟨h.1.1,hv⟩
  ·rw[if_neg e,if_neg (fun z=>e (vZ (h.1.1.symm.trans z)))];exact h.1
 | [],_::_,h=>h.elim
 | _::_,[],h=>h.elim
theorem a9.put {s:P2} {v:V} {w:S2} (h:a9 H kvs tb) (hv:aV H v w.1 w.2):a9 H (putK kvs (aZ s.1 s.2) v) (dm tb s w):=by
 unfold putK dm
 rw[h.any s]
 split
 ·exact h.oi hv
 ·exact h.app ⟨⟨rfl,hv⟩,trivial⟩
theorem a9.drop {s:P2}:∀ {kvs:List (List Key × V)} {tb:Tb},a9 H kvs tb->a9 H (ja kvs (aZ s.1 s.2)) (lq tb s)
 | [],[],_=>trivial
 | kv::kvs,r::tb,h=>by
  have ih:=a9.drop (s:=s) (kvs:=kvs) (tb:=tb) h.2
  unfold ja lq at *
  rw[amg,amg]
  by_cases e:r.1=s
  ·have e2:kv.1=aZ s.1 s.2:=h.1.1.trans (by rw[e])
   rw[if_neg (by simp[e2]),if_neg (by simp[e])];exact ih
  ·have e2:¬ kv.1=aZ s.1 s.2:=fun z=>e (vZ (h.1.1.symm.trans z))
   rw[if_pos (by simp[e2]),if_pos (by simp[e])];exact⟨h.1,ih⟩
 | [],_::_,h=>h.elim
 | _::_,[],h=>h.elim
theorem a9.sP:∀ {ys:List V} {kvs:List (List Key × V)} {tb:Tb},a9 H kvs tb->gB H ys kvs->cZ H ys (tb.map (·.1))
 | [],[],[],_,_=>trivial
 | y::ys,kv::kvs,r::tb,h,⟨⟨a,e,ha⟩,t⟩=>⟨⟨a,e,by rw[h.1.1] at ha;exact ha⟩,a9.sP (ys:=ys) (kvs:=kvs) (tb:=tb) h.2 t⟩
 | [],_::_,_,_,h=>h.elim
 | _::_,[],_,_,h=>h.elim
 | _,[],_::_,h,_=>h.elim
 | _,_::_,[],h,_=>h.elim
end
noncomputable def TabAt (H:Hp) (p:ala) (tb:Tb):Prop:=∃ kvs,H p=some (.dT kvs)/\a9 H kvs tb
noncomputable def Fr (H H':Hp):Prop:=∀ b o,(∀ kvs,o≠HO.dT kvs)->H b=some o->H' b=some o
noncomputable def j4 (ps:List ala) (H H':Hp):Prop:=∀ b o,b∉ps->H b=some o->H' b=some o
noncomputable def MZ (H:Hp) (ps:List ala):Prop:=∀ p∈ps,∃ kvs,H p=some (.dT kvs)
section
variable {H H' H2:Hp} {ps qs:List ala} {p q:ala} {tb:Tb}
theorem _root_.L2.ak.fr (s:ak H H'):Fr H H':=fun b o _ e=>s b o e
theorem SameBut.but (a:SameBut p H H') (h:p∈ps):j4 ps H H':=fun c o z e=>a c o (fun y=>z (y ▸ h)) e
theorem j4.fr (a:j4 ps H H') (d:MZ H ps):Fr H H':=fun b o ho e=>by
 by_cases hb:b∈ps
 ·obtain⟨kvs,hk⟩:=d b hb
  rw[hk] at e
  exact absurd (Option.some.inj e).symm (ho kvs)
 ·exact a b o hb e
theorem Am {kvs:List (List Key × V)} {o:HO} (h:H p=some (.dT kvs)):Fr H (upd H p o):=fun b u hu e=>by
 rw[aH (fun z=>by rw[z,h] at e;exact hu _ (Option.some.inj e).symm)];exact e
theorem Wn {kvs:List (List Key × V)} (h:H p=some (.dT kvs)):MZ H [p]:=fun b hb=>⟨kvs,(alP.mp hb) ▸ h⟩
theorem SameBut.fr {kvs:List (List Key × V)} (a:SameBut p H H') (h:H p=some (.dT kvs)):Fr H H':=j4.fr (SameBut.but a (.head _)) (Wn h)
theorem aV.fr {v:V} {a b:En} (h:aV H v a b) (f:Fr H H'):aV H' v a b:=let ⟨p,e,hp⟩:=h;⟨p,e,f _ _ (fun _ z=>nomatch z) hp⟩
theorem TabAt.fr (h:TabAt H p tb) (f:Fr H H') (e:∀ kvs,H p=some (.dT kvs)->H' p=some (.dT kvs)):TabAt H' p tb:=let ⟨kvs,a,b⟩:=h;⟨kvs,e _ a,b.imp fun _ _ _ z=>z.fr f⟩
theorem TabAt.same (h:TabAt H p tb) (s:ak H H'):TabAt H' p tb:=h.fr s.fr fun _ e=>s _ _ e
theorem TabAt.M0 (h:TabAt H p tb):∃ kvs,H p=some (.dT kvs):=let ⟨kvs,a,_⟩:=h;⟨kvs,a⟩
theorem TabAt.ne (h:TabAt H p tb) (hq:H q=none):p≠q:=fun z=>by obtain⟨kvs,a,_⟩:=h;rw[z,hq] at a;cases a
end
theorem oP {tb:Tb} {r:P2 × S2} (hn:(tb.map (·.1)).Nodup) (h:r∈tb):eN tb r.1=some r.2:=by
 induction tb with
 | nil=>cases h
 | cons x l ih =>
  rw[alH,amo] at hn
  rcases alk.mp h with z|z
  ·rw[<- z];simp[eN,amX]
  ·have e:¬ x.1=r.1:=fun y=>hn.1 (y ▸ alF.mpr ⟨r,z,rfl⟩)
   have:eN (x::l) r.1=eN l r.1:=by simp[eN,amX,e]
   rw[this,ih hn.2 z]
theorem Wo {tb:Tb} {s:P2} {w:S2} (h:eN tb s=some w):(s,w)∈tb:=by
 unfold eN at h
 obtain⟨r,h1,h2⟩:=alR.mp h
 have:=List.mem_of_find?_eq_some h1
 have e:=List.find?_some h1
 have e:r.1=s:=by simpa using e
 rw[<- h2,<- e];exact this
noncomputable def jo (e t:Int) (s:P2):Prop:=(0<=s.1/\s.1<e)/\0<=s.2/\s.2<t
instance (e t:Int) (s:P2):Decidable (jo e t s):=by unfold jo;infer_instance
noncomputable def bZ (e t:Int) (tb:Tb):Prop:=(tb.map (·.1)).Nodup/\∀ r∈tb,jo e t r.1
theorem M4 (tb:Tb) (s:P2) (w:S2):(dm tb s w).length<=tb.length+1:=by
 unfold dm;split<;>simp
theorem bZ.put {e t:Int} {tb:Tb} {s:P2} {w:S2} (h:bZ e t tb) (hs:jo e t s):bZ e t (dm tb s w):=by
 unfold dm
 split
 ·refine⟨?_,fun r hr=>?_⟩
  ·have:(tb.map fun r=>if r.1=s then (r.1,w) else r).map (·.1)=tb.map (·.1):=by
    rw[anI]
    refine anN fun r _=>?_
    show (if r.1=s then (r.1,w) else r).1=r.1
    split<;>rfl
   rw[this];exact h.1
  ·obtain⟨x,hx,rfl⟩:=alF.mp hr
   have:=h.2 x hx
   split<;>exact this
 ·rename_i z
  refine⟨?_,fun r hr=>?_⟩
  ·rw[am3]
   refine Lu h.1 fun y=>z ?_
   obtain⟨x,hx,e⟩:=alF.mp y
   rw[ao4]
   exact⟨x,hx,by simpa using e⟩
  ·rcases alK.mp hr with y|y
   ·exact h.2 r y
   ·rw[alP.mp y];exact hs
theorem bZ.drop {e t:Int} {tb:Tb} {s:P2} (h:bZ e t tb):bZ e t (lq tb s) :=
 ⟨h.1.sublist ((ari).map _),fun r hr=>h.2 r (ama.mp hr).1⟩
theorem bZ.nil {e t:Int}:bZ e t []:=⟨aoU,fun r h=>by cases h⟩
noncomputable def fY (tb:Tb):List (List Int):=tb.map fun r=>[r.1.1,r.1.2]
noncomputable def gY (tb:Tb):Tb:=cR (fY tb) ((0,0),(none,none)) tb
theorem lr {tb:Tb} {r:P2 × S2} (h:r∈gY tb):r∈tb:=oE.mem_iff.mp h
theorem lx {tb:Tb}:(gY tb).length=tb.length:=LY
theorem ay.sort {α:Type} {R:V->α->Prop} {xs:List V} {as:List α} {d:α} {kis:List (List Int)} (h:ay R xs as):ay R (cR kis .non xs) (cR kis d as):=by
 have hl:=h.len
 have hp:=(kU (n:=xs.length) (jg kis)).1
 unfold cR
 rw[<- hl]
 have gen:∀ l:List Nat,(∀ i∈l,i<xs.length)->ay R (l.map fun i=>xs.getD i .non) (l.map fun i=>as.getD i d):=by
  intro l
  induction l with
  | nil=>intro _;exact trivial
  | cons i l ih =>
   intro q
   have hi:=q i (.head _)
   obtain⟨s,es,hs⟩:=h.get (ak9 hi)
   refine⟨?_,ih fun j hj=>q j (.tail _ hj)⟩
   show R (xs.getD i .non) (as.getD i d)
   rw[ak4,ak4,es,ak9 hi]
   exact hs
 exact gen _ fun i hi=>by simpa using hp.mem_iff.mp hi
theorem ay.bind {α β:Type} {R:V->α->Prop} {f:β->α}:∀ {xs:List V} {bs:List β},ay R xs (bs.map f)->ay (fun x b=>R x (f b)) xs bs
 | [],[],_=>trivial
 | _::_,_::_,h=>⟨h.1,ay.bind h.2⟩
 | [],_::_,h=>h.elim
 | _::_,[],h=>h.elim
theorem ay.M5 {α β:Type} {R:V->α->Prop} {f:β->α}:∀ {xs:List V} {bs:List β},ay (fun x b=>R x (f b)) xs bs->ay R xs (bs.map f)
 | [],[],_=>trivial
 | _::_,_::_,h=>⟨h.1,ay.M5 h.2⟩
 | [],_::_,h=>h.elim
 | _::_,[],h=>h.elim
theorem Wq {H:Hp} {kvs:List (List Key × V)} {tb:Tb} (h:a9 H kvs tb):kvs.map (·.1)=(fY tb).map fun k=>k.map ap2:=by
 rw[h.keys];unfold fY;rw[anI];rfl
theorem Wr {tb:Tb}:∀ k∈fY tb,k≠[]:=fun k hk=>by
 obtain⟨r,_,rfl⟩:=alF.mp hk
 exact fun z=>nomatch z
theorem M6 {H:Hp} {kvs:List (List Key × V)} {ys:List V} {tb:Tb} (h:a9 H kvs tb) (hk:gB H ys kvs):ay (fun x (r:P2 × S2)=>cw H x r.1) (cR (fY tb) .non ys) (gY tb):=ay.sort (ay.bind (h.sP hk))
theorem M7 {K:ak2} {H:Hp}:∀ {ys:List V} {tb:Tb},ay (fun x (r:P2 × S2)=>cw H x r.1) ys tb->fU K H ys (fY tb)
 | [],[],_=>trivial
 | y::ys,r::tb,⟨⟨a,e,ha⟩,t⟩=>⟨⟨a,e,.inl (.inl ha),fun z=>nomatch z⟩,M7 (ys:=ys) (tb:=tb) t⟩
 | [],_::_,h=>h.elim
 | _::_,[],h=>h.elim
noncomputable def fc (H:Hp) (v:V) (r:P2 × S2):Prop:=∃ a w,v = .ref a/\H a=some (.tup [.int r.1.1,.int r.1.2,w])/\aV H w r.2.1 r.2.2
theorem fc.same {H H':Hp} {v:V} {r:P2 × S2} (h:fc H v r) (s:ak H H'):fc H' v r:=let ⟨a,w,e,ha,hw⟩:=h;⟨a,w,e,s _ _ ha,hw.same s⟩
noncomputable def M8 (r:P2 × S2):anH:=.tuple [.int r.1.1,.int r.1.2,vR r.2]
theorem An {K:ak2} {H:Hp}:∀ {xs:List V} {tb:Tb},ay (fc H) xs tb->ee K H xs (tb.map M8)
 | [],[],_=>.nil
 | x::xs,r::tb,⟨⟨a,w,e,ha,hw⟩,t⟩=>by
  subst e
  exact .cons (.tup (aj.of ha) (.cons (.int _) (.cons (.int _) (.cons (aV.dat hw) .nil)))) (An t)
 | [],_::_,h=>h.elim
 | _::_,[],h=>h.elim
end Gz
namespace Gz
open PySem PySem.Spec PyProof.Rows L2
theorem Ws {a b c d:En} (h:aY a b=true):aY (cX a c) (cY b d)=true:=by
 rcases a with _|x<;>rcases b with _|y<;>rcases c with _|z<;>rcases d with _|w<;>simp[aY,cX,cY] at h ⊢<;>lia
noncomputable def bz (e:S2) (ss:List S2):S2:=ss.foldl (fun e s=>(cX e.1 s.1,cY e.2 s.2)) e
theorem v5 (e s:S2) (ss:List S2):bz e (s::ss)=bz (cX e.1 s.1,cY e.2 s.2) ss:=rfl
theorem M9:∀ (ss:List S2) {e:S2},aY e.1 e.2=true->aY (bz e ss).1 (bz e ss).2=true
 | [],_,h=>h
 | s::ss,e,h=>by
  rw[v5]
  exact M9 ss (Ws h)
theorem Wt {ss:List S2} {e:S2} {i:Nat} (h:aY (bz e (ss.take i)).1 (bz e (ss.take i)).2=true):aY (bz e ss).1 (bz e ss).2=true:=by
 have:bz e ss=bz (bz e (ss.take i)) (ss.drop i):=by
  unfold bz
  rw[<- apZ,amT]
 rw[this]
 exact M9 _ h
theorem Wu {ss:List S2} {e s:S2} {i:Nat} (h:ss[i]?=some s):bz e (ss.take (i+1))=(cX (bz e (ss.take i)).1 s.1,cY (bz e (ss.take i)).2 s.2):=by
 unfold bz
 rw[amK,h,apZ]
 rfl
noncomputable def dq (e:S2) (ss:List S2):W2:=if aY (bz e ss).1 (bz e ss).2=true then none else some (bz e ss)
theorem j5 {H:Hp}:∀ {xs:List V} {ss:List S2},jW H xs ss↔ay (fun x s=>aV H x s.1 s.2) xs ss
 | [],[]=>Iff.rfl
 | _::_,_::_=>and_congr Iff.rfl j5
 | [],_::_=>Iff.rfl
 | _::_,[]=>Iff.rfl
noncomputable abbrev Pa:=Str × Int × S2
noncomputable def gC (H:Hp) (v:V) (p:Pa):Prop:=∃ (t q:ala),v = .ref t/\H t=some (.tup [.str p.1,.int p.2.1,.ref q])/\H q=some (.tup [ev p.2.2.1,ev p.2.2.2])
theorem gC.same {H H':Hp} {v:V} {p:Pa} (h:gC H v p) (s:ak H H'):gC H' v p:=let ⟨t,q,e,a,b⟩:=h;⟨t,q,e,s _ _ a,s _ _ b⟩
noncomputable abbrev bT (H:Hp):List V->List Pa->Prop:=ay (gC H)
theorem bT.same {H H':Hp} {xs:List V} {ps:List Pa} (h:bT H xs ps) (s:ak H H'):bT H' xs ps:=ay.imp (fun _ _ r=>r.same s) h
theorem gC.fr {H:Hp} {v:V} {p:Pa} {r:ala} {ys:List V} {o:HO} (h:gC H v p) (hr:H r=some (.lst ys)):gC (upd H r o) v p:=by
 obtain⟨t,q,e,a,b⟩:=h
 have h1:t≠r:=fun z=>by rw[z,hr] at a;cases a
 have h2:q≠r:=fun z=>by rw[z,hr] at b;cases b
 exact⟨t,q,e,by rw[aH h1];exact a,by rw[aH h2];exact b⟩
theorem bT.put {H:Hp} {xs:List V} {ps:List Pa} {r:ala} {ys:List V} {o:HO} (h:bT H xs ps) (hr:H r=some (.lst ys)):bT (upd H r o) xs ps:=ay.imp (fun _ _ x=>x.fr hr) h
noncomputable def iG (k:Str) (t:Int) (p:Pa):Bool:=decide (p.1=k) && decide (p.2.1=t)
noncomputable def sel (ps:List Pa) (k:Str) (t:Int):List S2:=(ps.filter (iG k t)).map (·.2.2)
noncomputable def hasB (n:Int) (k:Str) (t:Int):Bool:=if k = "step" then decide (0<=t/\t<n) && decide (0<=t+1/\t+1<n) else decide (k = "at") && decide (0<=t/\t<n)
noncomputable def eO (n:Int) (ps:List Pa):Prop:=∀ p∈ps,hasB n p.1 p.2.1=true
theorem Ao {n t:Int}:hasB n "step" t=true↔0<=t/\t+1<n:=by
 unfold hasB
 rw[if_pos rfl]
 simp only[amM,decide_eq_true_eq]
 lia
theorem sQ {n t:Int} {k:Str} (h:k ≠ "step"):hasB n k t=true↔k = "at" /\ 0<=t/\t<n:=by
 unfold hasB
 rw[if_neg h]
 simp only[amM,decide_eq_true_eq]
noncomputable def iH (cs:List Int) (k:Str) (t:Int):Int:=if k = "step" then cs.getD (t+1).toNat 0-cs.getD t.toNat 0 else cs.getD t.toNat 0
noncomputable def jq (cs:List Int) (ps:List Pa):Bool:=ps.all fun p=>hold p.2.2.1 p.2.2.2 (iH cs p.1 p.2.1)
theorem int_at {cs:List Int} {t:Int} (h0:0<=t) (h1:t<(cs.length:Int)):cB (cs.map V.int) t=some (.int (cs.getD t.toNat 0)):=by
 have e:t=((t.toNat:Nat):Int):=by lia
 refine (congrArg (cB _) e).trans (dC ?_)
 rw[alz,ak4,ak9 (by lia)]
 rfl
structure Gd (n:Nat) (d:anH):Prop where
 eqv:amZ d d=true
 lay:d.canLay0=true
 dep:d.depth<=n
theorem Gd.up {n m:Nat} {d:anH} (h:Gd n d) (hm:n<=m):Gd m d:=⟨h.eqv,h.lay,alp h.dep hm⟩
theorem Gd.of {n:Nat} {d:anH} (h:gA n d=true):Gd n d:=let ⟨a,b,c⟩:=Mv d h;⟨a,b,c⟩
theorem Gd.str {x:Str} (h:apA x=true):Gd 0 (.str x):=⟨by simp[amZ],by simpa [aoS] using h,alm _⟩
theorem Gd.int (i:Int):Gd 0 (.int i):=.of rfl
theorem Gd.all:∀ {ds:List anH} {n:Nat},(∀ d∈ds,Gd n d)->anL ds ds=true/\aoN ds=true/\apg ds<=n
 | [],n,_=>⟨rfl,rfl,alv _⟩
 | d::ds,n,h=>by
  obtain⟨a,b,c⟩:=h d (.head _)
  obtain⟨a',b',c'⟩:=Gd.all (ds:=ds) fun x hx=>h x (.tail _ hx)
  exact⟨by simp only[anL,a,a',ap6],by simp only[aoN,b,b',ap6],by simp only[apg];lia⟩
theorem Gd.lst {ds:List anH} {n:Nat} (h:∀ d∈ds,Gd n d):Gd (n+1) (.list ds):=by
 obtain⟨a,b,c⟩:=Gd.all h
 exact⟨by simpa only [amZ] using a,by simpa only [aoS] using b,by simp only[PyData.depth];lia⟩
theorem Gd.tup {ds:List anH} {n:Nat} (h:∀ d∈ds,Gd n d):Gd (n+1) (.tuple ds):=by
 obtain⟨a,b,c⟩:=Gd.all h
 exact⟨by simpa only [amZ] using a,by simpa only [aoS] using b,by simp only[PyData.depth];lia⟩
theorem sR {K:ak2} {H:Hp} {x y:V} {d:anH} {n:Nat} {neg:Bool} {Q:VK} (hx:Dat K H x d) (hy:Dat K H y d) (g:Gd n d) (hn:n<=60) (q:Q (.bl (!neg)) H):vQ K neg x y H Q:=by
 refine⟨d,d,hx,hy,g.lay,g.lay,alp g.dep hn,?_⟩
 rw[g.eqv]
 cases neg<;>exact q
theorem Na (s:S2):Gd 1 (vR s):=.of (by
 obtain⟨a,b⟩:=s
 cases a<;>cases b<;>rfl)
theorem ee.Ap {α:Type} {K:ak2} {H:Hp} {R:V->α->Prop} {f:α->anH} (h:∀ v a,R v a->Dat K H v (f a)):∀ {xs:List V} {as:List α},ay R xs as->ee K H xs (as.map f)
 | [],[],_=>.nil
 | _::_,_::_,r=>.cons (h _ _ r.1) (ee.Ap h r.2)
 | [],_::_,r=>r.elim
 | _::_,[],r=>r.elim
noncomputable def Aq (p:Pa):anH:=.tuple [.str p.1,.int p.2.1,vR p.2.2]
theorem gC.dat {K:ak2} {H:Hp} {v:V} {p:Pa} (h:gC H v p):Dat K H v (Aq p):=by
 obtain⟨t,q,rfl,a,b⟩:=h
 exact .tup (aj.of a) (.cons (.str _) (.cons (.int _) (.cons (aV.dat ⟨q,rfl,b⟩) .nil)))
theorem Wv {p:Pa} (h:apA p.1=true):Gd 2 (Aq p):=.tup fun d hd=>by
 simp only[alk,ame,or_false] at hd
 rcases hd with rfl|rfl|rfl
 ·exact (Gd.str h).up (by decide)
 ·exact (Gd.int _).up (by decide)
 ·exact Na _
end Gz
namespace Gz
open PySem PySem.Spec PyProof.Rows L2
theorem oQ {α β:Type} {R:V->α->Prop} {R':V->β->Prop} {Ok:Hp->Prop} {ρ:L2.St} {tt:TT} {te:TE} {p:α->Bool} {f:α->β} {Q':List V->Hp->Prop} {H:Hp} (dj:Ok H):∀ {xs:List V} {as:List α} {ys:List V},ay R xs as ->
 (∀ x a,R x a->∀ Q,Q (p a) H->tt (some x::ρ) H Q)->(∀ x a,p a=true->R x a->∀ Q:VK,(∀ y,R' y (f a)->Q y H)->te (some x::ρ) H Q)->(∀ zs,ay R' zs ((as.filter p).map f)->Q' (ys++zs) H)->eM Ok ρ tt te xs ys H Q'
 | [],[],ys,_,_,_,q=>⟨dj,by simpa using q [] trivial⟩
 | x::xs,a::as,ys,h,ht,he,q=>by
  refine⟨dj,ht x a h.1 _ ?_⟩
  by_cases hb:p a=true
  ·rw[if_pos hb]
   refine he x a hb h.1 _ fun y ry=>oQ dj h.2 ht he fun zs hz=>?_
   have:=q (y::zs) (by rw[amg,if_pos hb];exact⟨ry,hz⟩)
   simpa using this
  ·rw[if_neg hb]
   refine oQ dj h.2 ht he fun zs hz=>q zs ?_
   rw[amg,if_neg hb]
   exact hz
 | [],_::_,_,h,_,_,_=>h.elim
 | _::_,[],_,h,_,_,_=>h.elim
end Gz
namespace Gz
open PySem PySem.Spec PyProof.Rows L2
theorem v7 {K:ak2} {i j k:Nat} {p:ala} {x y z:V} {σ:L2.St} {H:Hp} {Q:L2.St->Hp->Prop} (h:aj K H p [x,y,z]) (q:Q (((σ.set i (some x)).set j (some y)).set k (some z)) H):kF K 3 (dz (de i) (dz (de j) (dz (de k) jM))) (.ref p) σ H Q :=
 ⟨p,_,rfl,h,rfl,_,_,rfl,_,_,rfl,_,_,rfl,rfl,q⟩
end Gz
namespace Gz
open PySem PySem.Spec PyProof.Rows L2
end Gz
namespace Gz
open PySem L2
end Gz
namespace Gz
open PySem L2
noncomputable def bL (s:S2) (x:Int):Prop:=(∀ a,s.1=some a->a<=x)/\∀ b,s.2=some b->x<=b
noncomputable def dO (w:W2) (x:Int):Prop:=∃ s,w=some s/\bL s x
theorem Ar {s:S2} {x:Int}:bL s x↔hold s.1 s.2 x=true:=zX.symm
theorem As {a b:S2} {x:Int}:bL (cX a.1 b.1,cY a.2 b.2) x↔bL a x/\bL b x:=by
 obtain⟨a1,a2⟩:=a
 obtain⟨b1,b2⟩:=b
 unfold bL
 rcases a1 with _|p<;>rcases a2 with _|q<;>rcases b1 with _|r<;>rcases b2 with _|s<;>simp[cX,cY]<;>(try split)<;>(try split)<;>lia
theorem Nb {ss:List S2} {x:Int}:∀ {e:S2},bL (bz e ss) x↔bL e x/\∀ s∈ss,bL s x:=by
 induction ss with
 | nil=>intro e;exact⟨fun h=>⟨h,fun _ z=>nomatch z⟩,fun h=>h.1⟩
 | cons s ss ih =>
  intro e
  rw[v5,ih,As]
  simp only[alk,forall_eq_or_imp,and_assoc]
theorem Ww {s:S2} (h:aY s.1 s.2=false):∃ x,bL s x:=by
 obtain⟨a,b⟩:=s
 rcases a with _|a<;>rcases b with _|b
 ·exact⟨0,fun _ z=>(nomatch z),fun _ z=>(nomatch z)⟩
 ·exact⟨b,fun _ z=>(nomatch z),fun _ z=>by cases z;exact amF _⟩
 ·exact⟨a,fun _ z=>by cases z;exact amF _,fun _ z=>(nomatch z)⟩
 ·refine⟨a,fun _ z=>by cases z;exact amF _,fun _ z=>?_⟩
  cases z
  simp[aY] at h
  exact h
theorem Nc {s:S2} {x:Int} (h:bL s x):aY s.1 s.2=false:=by
 obtain⟨a,b⟩:=s
 rcases a with _|a<;>rcases b with _|b
 ·rfl
 ·rfl
 ·rfl
 ·have h1:=h.1 a rfl
  have h2:=h.2 b rfl
  simp[aY]
  lia
noncomputable def gD (a b:S2):W2:=if aY (cX a.1 b.1) (cY a.2 b.2)=true then none else some (cX a.1 b.1,cY a.2 b.2)
theorem oR {a b:S2} {x:Int}:dO (gD a b) x↔bL a x/\bL b x:=by
 unfold gD
 constructor
 ·rintro ⟨s,e,h⟩
  split at e
  ·cases e
  ·cases e
   exact As.mp h
 ·intro h
  have h:=As.mpr h
  rw[if_neg (by rw[Nc h];simp)]
  exact⟨_,rfl,h⟩
theorem Nd {a b s:S2} (h:gD a b=some s):aY s.1 s.2=false:=by
 unfold gD at h
 split at h
 ·cases h
 ·rename_i hc
  cases h
  simpa using hc
theorem Au {ss:List S2} {x:Int}:dO (dq (none,none) ss) x ↔ ∀ s∈ss,bL s x:=by
 have e0:bL (none,none) x:=⟨fun _ z=>(nomatch z),fun _ z=>(nomatch z)⟩
 unfold dq
 constructor
 ·rintro ⟨s,e,h⟩
  split at e
  ·cases e
  ·cases e
   exact (Nb.mp h).2
 ·intro h
  have h:=Nb.mpr ⟨e0,h⟩
  rw[if_neg (by rw[Nc h];simp)]
  exact⟨_,rfl,h⟩
noncomputable def eh (s:S2) (p:P2):S2:=(s.1.map (· + p.1),s.2.map (· + p.2))
theorem Av {s:S2} {p:P2} {x y:Int} (h:bL s x) (h1:p.1<=y-x) (h2:y-x<=p.2):bL (eh s p) y:=by
 obtain⟨a,b⟩:=s
 refine⟨fun z e=>?_,fun z e=>?_⟩
 ·obtain⟨a,ea,rfl⟩:=alR.mp (show a.map (· + p.1)=some z from e)
  have:=h.1 a ea
  lia
 ·obtain⟨b,eb,rfl⟩:=alR.mp (show b.map (· + p.2)=some z from e)
  have:=h.2 b eb
  lia
theorem Wx {s:S2} {p:P2} {y:Int} (hs:aY s.1 s.2=false) (hp:p.1<=p.2) (h:bL (eh s p) y):∃ x,bL s x/\p.1<=y-x/\y-x<=p.2:=by
 obtain⟨a,b⟩:=s
 rcases a with _|a<;>rcases b with _|b
 ·exact⟨y-p.1,⟨fun _ z=>(nomatch z),fun _ z=>(nomatch z)⟩,by lia,by lia⟩
 ·have h2:=h.2 (b+p.2) rfl
  exact⟨y-p.2,⟨fun _ z=>(nomatch z),fun _ z=>by cases z;lia⟩,by lia,by lia⟩
 ·have h1:=h.1 (a+p.1) rfl
  exact⟨y-p.1,⟨fun _ z=>by cases z;lia,fun _ z=>(nomatch z)⟩,by lia,by lia⟩
 ·have h1:=h.1 (a+p.1) rfl
  have h2:=h.2 (b+p.2) rfl
  simp[aY] at hs
  by_cases hc:a<=y-p.2
  ·exact⟨y-p.2,⟨fun _ z=>by cases z;lia,fun _ z=>by cases z;lia⟩,by lia,by lia⟩
  ·exact⟨a,⟨fun _ z=>by cases z;lia,fun _ z=>by cases z;lia⟩,by lia,by lia⟩
noncomputable def bh (bx:Nat->W2) (st:Nat->P2):Nat->W2
 | 0=>bx 0
 | t+1=>match bx (t+1),bh bx st t with
  | some b,some k=>gD b (eh k (st t))
  | _,_=>none
noncomputable def sS (w:W2):Prop:=∀ s,w=some s->aY s.1 s.2=false
theorem v8 {bx:Nat->W2} {st:Nat->P2} (h0:sS (bx 0)):∀ t,sS (bh bx st t)
 | 0=>h0
 | t+1=>fun s e=>by
  unfold bh at e
  split at e
  ·exact Nd e
  ·cases e
theorem Nf {bx:Nat->W2} {st:Nat->P2} {t:Nat} {s:S2} (h:bh bx st (t+1)=some s):∃ b k,bx (t+1)=some b/\bh bx st t=some k/\gD b (eh k (st t))=some s:=by
 unfold bh at h
 split at h
 ·rename_i b k e1 e2
  exact⟨b,k,e1,e2,h⟩
 ·cases h
theorem Ng {bx:Nat->W2} {st:Nat->P2} {c:Nat->Int} {n:Nat} (hb:∀ t,t<=n->dO (bx t) (c t)) (hs:∀ t,t<n->(st t).1<=c (t+1)-c t/\c (t+1)-c t<=(st t).2):∀ t,t<=n->dO (bh bx st t) (c t)
 | 0,h=>hb 0 h
 | t+1,h=>by
  obtain⟨k,ek,hk⟩:=Ng hb hs t (by lia)
  obtain⟨b,eb,Aw⟩:=hb (t+1) h
  obtain⟨h1,h2⟩:=hs t (by lia)
  unfold bh
  rw[eb,ek]
  exact oR.mpr ⟨Aw,Av hk h1 h2⟩
theorem Ax {bx:Nat->W2} {st:Nat->P2} {x:Int}:∀ {t:Nat},dO (bh bx st t) x->dO (bx t) x
 | 0,h=>h
 | t+1,⟨s,e,h⟩=>by
  obtain⟨b,k,e1,_,e3⟩:=Nf e
  exact⟨b,e1,(oR.mp ⟨s,e3,h⟩).1⟩
theorem Nh {bx:Nat->W2} {st:Nat->P2} (h0:sS (bx 0)) {t:Nat} (hp:(st t).1<=(st t).2) {y:Int} (h:dO (bh bx st (t+1)) y):∃ x,dO (bh bx st t) x/\(st t).1<=y-x/\y-x<=(st t).2:=by
 obtain⟨s,e,h⟩:=h
 obtain⟨b,k,_,e2,e3⟩:=Nf e
 obtain⟨x,hx,h1,h2⟩:=Wx (v8 h0 t k e2) hp (oR.mp ⟨s,e3,h⟩).2
 exact⟨x,⟨k,e2,hx⟩,h1,h2⟩
noncomputable def gE (n:Nat) (st:Nat->P2) (t:Nat):P2:=(-(st (n-1-t)).2,-(st (n-1-t)).1)
noncomputable def fB (n:Nat) (bx:Nat->W2) (st:Nat->P2) (t:Nat):W2:=bh (fun k=>bh bx st (n-k)) (gE n st) (n-t)
structure wa (n:Nat) (bx:Nat->W2) (st:Nat->P2):Prop where
 ok:∀ t,t<=n->∃ s,fB n bx st t=some s/\aY s.1 s.2=false
 sub:∀ t x,t<=n->dO (fB n bx st t) x->dO (bx t) x
 next:∀ t x,t<n->dO (fB n bx st t) x->∃ y,dO (fB n bx st (t+1)) y/\(st t).1<=y-x/\y-x<=(st t).2
theorem Wy {n:Nat} {bx:Nat->W2} {st:Nat->P2} (h0:sS (bx 0)) (hp:∀ t,t<n->(st t).1<=(st t).2) (hf:∀ t,t<=n->bh bx st t≠none):wa n bx st:=by
 have Ay:=v8 (st:=st) h0
 have Wz:∀ k,k<=n->∃ s,bh (fun k=>bh bx st (n-k)) (gE n st) k=some s:=by
  intro k
  induction k with
  | zero =>
   intro _
   obtain⟨s,e⟩:=apt.mp (hf n (alm _))
   exact⟨s,e⟩
  | succ k ih =>
   intro hk
   obtain⟨s,e⟩:=ih (by lia)
   obtain⟨y,hy⟩:=Ww (v8 (bx:=fun k=>bh bx st (n-k)) (Ay n) k s e)
   have Ni:dO (bh bx st (n-k)) y:=Ax (bx:=fun k=>bh bx st (n-k)) ⟨s,e,hy⟩
   rw[show n-k=n-(k+1)+1 by lia] at Ni
   obtain⟨x,⟨f,ef,hx⟩,h1,h2⟩:=Nh h0 (hp _ (by lia)) Ni
   have em:n-1-k=n-(k+1):=by lia
   have hm:bL (eh s (gE n st k)) x:=Av hy (by unfold gE;rw[em];dsimp only;lia) (by unfold gE;rw[em];dsimp only;lia)
   obtain⟨z,ez,_⟩:=oR.mpr ⟨hx,hm⟩
   refine⟨z,?_⟩
   unfold bh
   rw[e]
   show (match bh bx st (n-(k+1)),some s with
    | some b,some WA=>gD b (eh WA (gE n st k))
    | _,_=>none)=some z
   rw[ef]
   exact ez
 refine⟨fun t ht=>?_,fun t x ht h=>?_,fun t x ht h=>?_⟩
 ·obtain⟨s,e⟩:=Wz (n-t) (by lia)
  exact⟨s,e,v8 (bx:=fun k=>bh bx st (n-k)) (Ay n) _ s e⟩
 ·have:=Ax (bx:=fun k=>bh bx st (n-k)) h
  rw[show n-(n-t)=t by lia] at this
  exact Ax this
 ·unfold fB at h
  rw[show n-t=n-(t+1)+1 by lia] at h
  have hb:(gE n st (n-(t+1))).1<=(gE n st (n-(t+1))).2:=by
   unfold gE
   have:=hp (n-1-(n-(t+1))) (by lia)
   dsimp only
   lia
  obtain⟨y,hy,h1,h2⟩:=Nh (bx:=fun k=>bh bx st (n-k)) (Ay n) hb h
  have em:n-1-(n-(t+1))=t:=by lia
  unfold gE at h1 h2
  rw[em] at h1 h2
  dsimp only at h1 h2
  exact⟨y,hy,by lia,by lia⟩
noncomputable def j6 (ps:List P2) (c:Nat->Int):Prop:=∀ k,k<ps.length->(aK ps k).1<=c (k+1)-c k/\c (k+1)-c k<=(aK ps k).2
noncomputable abbrev Mk:=Nat × S2
noncomputable def meets (ms:List Mk) (c:Nat->Int):Prop:=∀ m∈ms,bL m.2 (c m.1)
structure jr (ps:List P2) (ms:List Mk) (tp:Nat->Option P2):Prop where
 val:∀ t v k,t<=ps.length->tp t=some (v,k)->∃ (i:Nat) (m:Mk) (h:Int),k=(i:Int)/\ms[i]?=some m/\m.2.2=some h/\h+bB ps m.1 t<=v
 top:∀ m∈ms,∀ h,m.2.2=some h->∃ v k,tp m.1=some (v,k)/\v<=h
 fwd:∀ t v k,t<ps.length->tp t=some (v,k)->∃ v' k',tp (t+1)=some (v',k')/\v'<=v+(aK ps t).2
 bwd:∀ t v k,t<ps.length->tp (t+1)=some (v,k)->∃ v' k',tp t=some (v',k')/\v'<=v-(aK ps t).1
noncomputable def sT (ms:List Mk) (tp:Nat->Option P2):Prop:=∀ m∈ms,∀ l v k,m.2.1=some l->tp m.1=some (v,k)->l<=v
theorem WB {ps:List P2} {ms:List Mk} {tp:Nat->Option P2} (hp:dN ps) (hm:∀ m∈ms,m.1<=ps.length) (T:jr ps ms tp) (hn:sT ms tp):∃ c,j6 ps c/\meets ms c:=by
 by_cases h0:tp 0=none
 ·have WC:∀ t,t<=ps.length->tp t=none:=by
   intro t
   induction t with
   | zero=>intro _;exact h0
   | succ t ih =>
    intro ht
    cases e:tp (t+1) with
    | none=>rfl
    | some q =>
     obtain⟨v,k⟩:=q
     obtain⟨v',k',e',_⟩:=T.bwd t v k (by lia) e
     rw[ih (by lia)] at e'
     cases e'
  have WD:∀ m∈ms,m.2.2=none:=fun m cC=>by
   cases e:m.2.2 with
   | none=>rfl
   | some h =>
    obtain⟨v,k,e',_⟩:=T.top m cC h e
    rw[WC m.1 (hm m cC)] at e'
    cases e'
  have big:∀ (l:List Mk),∃ M:Int,∀ m∈l,∀ a,m.2.1=some a->a<=M+pre (·.1) ps m.1:=by
   intro l
   induction l with
   | nil=>exact⟨0,fun _ z=>nomatch z⟩
   | cons m l ih =>
    obtain⟨M,hM⟩:=ih
    cases e:m.2.1 with
    | none =>
     refine⟨M,fun q hq a ha=>?_⟩
     rcases alk.mp hq with rfl|hq
     ·rw[e] at ha;cases ha
     ·exact hM q hq a ha
    | some b =>
     refine⟨if M<=b-pre (·.1) ps m.1 then b-pre (·.1) ps m.1 else M,fun q hq a ha=>?_⟩
     rcases alk.mp hq with rfl|hq
     ·rw[e] at ha
      cases ha
      split<;>lia
     ·have:=hM q hq a ha
      split<;>lia
  obtain⟨M,hM⟩:=big ms
  refine⟨fun t=>M+pre (·.1) ps t,fun k hk=>?_,fun m cC=>⟨fun a ha=>hM m cC a ha,fun b hb=>?_⟩⟩
  ·have:=hp _ (oH hk)
   dsimp only
   rw[fW _ ps hk]
   lia
  ·rw[WD m cC] at hb
   cases hb
 ·have Nj:∀ t,t<=ps.length->∃ v k,tp t=some (v,k):=by
   intro t
   induction t with
   | zero =>
    intro _
    obtain⟨⟨v,k⟩,e⟩:=apt.mp h0
    exact⟨v,k,e⟩
   | succ t ih =>
    intro ht
    obtain⟨v,k,e⟩:=ih (by lia)
    obtain⟨v',k',e',_⟩:=T.fwd t v k (by lia) e
    exact⟨v',k',e'⟩
  refine⟨fun t=>((tp t).map (·.1)).getD 0,fun k hk=>?_,fun m cC=>⟨fun a ha=>?_,fun b hb=>?_⟩⟩
  ·obtain⟨v,q,e⟩:=Nj k (by lia)
   obtain⟨v',q',e',h1⟩:=T.fwd k v q hk e
   obtain⟨v2,q2,e2,h2⟩:=T.bwd k v' q' hk e'
   rw[e] at e2
   cases e2
   dsimp only
   rw[e,e']
   simp only[Option.map_some,aqe]
   lia
  ·obtain⟨v,q,e⟩:=Nj m.1 (hm m cC)
   have:=hn m cC a v q ha e
   dsimp only
   rw[e]
   exact this
  ·obtain⟨v,q,e,h1⟩:=T.top m cC b hb
   dsimp only
   rw[e]
   exact h1
noncomputable def clash (ps:List P2) (a b:Mk):Prop:=∃ h l,a.2.2=some h/\b.2.1=some l/\h+bB ps a.1 b.1<l
noncomputable def eQ (a b:P2):Bool:=decide (a.1<b.1) || (decide (a.1=b.1) && decide (a.2<b.2))
noncomputable def eR (a b:P2):P2:=if eQ b a=true then b else a
noncomputable def iI:Option P2->Option P2->Option P2
 | none,b=>b
 | some a,none=>some a
 | some a,some b=>some (eR a b)
theorem Az (a b:P2):(eR a b=a∨eR a b=b)/\(eR a b).1<=a.1/\(eR a b).1<=b.1:=by
 unfold eR eQ
 split
 ·rename_i h
  simp only[aow,amM,decide_eq_true_eq] at h
  exact⟨.inr rfl,by lia,by lia⟩
 ·rename_i h
  simp only[aow,amM,decide_eq_true_eq,not_or,not_and] at h
  exact⟨.inl rfl,by lia,by lia⟩
theorem Nk (a b:Option P2):iI a b=a∨iI a b=b:=by
 rcases a with _|a<;>rcases b with _|b
 ·exact .inl rfl
 ·exact .inr rfl
 ·exact .inl rfl
 ·show some (eR a b)=some a∨some (eR a b)=some b
  rcases (Az a b).1 with h|h<;>rw[h]
  ·exact .inl rfl
  ·exact .inr rfl
noncomputable def el (a:Option P2) (v:Int):Prop:=∃ w k,a=some (w,k)/\w<=v
theorem WE {a b:Option P2} {v:Int} (h:el a v):el (iI a b) v:=by
 obtain⟨w,k,rfl,hw⟩:=h
 rcases b with _|b
 ·exact⟨w,k,rfl,hw⟩
 ·have:=(Az (w,k) b).2.1
  exact⟨(eR (w,k) b).1,(eR (w,k) b).2,rfl,by dsimp only at this;lia⟩
theorem AA {a b:Option P2} {v:Int} (h:el b v):el (iI a b) v:=by
 obtain⟨w,k,rfl,hw⟩:=h
 rcases a with _|a
 ·exact⟨w,k,rfl,hw⟩
 ·have:=(Az a (w,k)).2.2
  exact⟨(eR a (w,k)).1,(eR a (w,k)).2,rfl,by dsimp only at this;lia⟩
noncomputable def oT (a:Option P2) (WG:Int):Option P2:=a.map fun q=>(q.1+WG,q.2)
theorem Nl {a:Option P2} {v b:Int} (h:el a v):el (oT a b) (v+b):=by
 obtain⟨w,k,rfl,hw⟩:=h
 exact⟨w+b,k,rfl,by lia⟩
noncomputable def fD (ps:List P2) (ms:List Mk) (t:Nat) (a:Option P2):Prop:=∀ v k,a=some (v,k)->∃ (i:Nat) (m:Mk) (h:Int),k=(i:Int)/\ms[i]?=some m/\m.2.2=some h/\h+bB ps m.1 t<=v
theorem fD.AB {ps:List P2} {ms:List Mk} {t:Nat} {a b:Option P2} (ha:fD ps ms t a) (hb:fD ps ms t b):fD ps ms t (iI a b):=by
 rcases Nk a b with h|h<;>rw[h]
 ·exact ha
 ·exact hb
theorem WH (ps:List P2) (t:Nat):bB ps t t=0:=by unfold bB;rw[if_pos (alm _)];lia
theorem WI {ps:List P2} {t:Nat} (h:t<ps.length):bB ps t (t+1)=(aK ps t).2:=by
 unfold bB
 rw[if_pos (aoK _),fW _ ps h]
 lia
theorem WJ {ps:List P2} {t:Nat} (h:t<ps.length):bB ps (t+1) t = -(aK ps t).1:=by
 unfold bB
 rw[if_neg (by lia),fW _ ps h]
 lia
theorem fD.lift {ps:List P2} {ms:List Mk} (hp:dN ps) (hm:∀ m∈ms,m.1<=ps.length) {t u:Nat} (ht:t<=ps.length) (hu:u<=ps.length) {a:Option P2} {b:Int} (hb:bB ps t u=b) (h:fD ps ms t a):fD ps ms u (oT a b):=by
 intro v k e
 obtain⟨⟨w,q⟩,ea,e⟩:=alR.mp e
 cases e
 obtain⟨i,m,x,e1,e2,e3,hx⟩:=h w q ea
 refine⟨i,m,x,e1,e2,e3,?_⟩
 have:=V5 hp (hm m (alx e2)) hu ht
 dsimp only
 lia
noncomputable def iJ (tp:Nat->Option P2) (i:Nat) (x:Option P2):Nat->Option P2:=fun t=>if t=i then x else tp t
theorem ly {tp:Nat->Option P2} {i:Nat} {x:Option P2}:iJ tp i x i=x:=if_pos rfl
theorem jt {tp:Nat->Option P2} {i t:Nat} {x:Option P2} (h:t≠i):iJ tp i x t=tp t:=if_neg h
theorem Nm {ps:List P2} {ms:List Mk} {tp:Nat->Option P2} {i:Nat} {x:Option P2} (h:∀ t,t<=ps.length->fD ps ms t (tp t)) (hx:fD ps ms i x):∀ t,t<=ps.length->fD ps ms t (iJ tp i x t):=fun t ht=>by
 by_cases e:t=i
 ·subst e;rw[ly];exact hx
 ·rw[jt e];exact h t ht
theorem wb {tp:Nat->Option P2} {i t:Nat} {b:Option P2} {v:Int} (h:el (tp t) v):el (iJ tp i (iI (tp i) b) t) v:=by
 by_cases e:t=i
 ·subst e;rw[ly];exact WE h
 ·rw[jt e];exact h
structure T1 (ps:List P2) (ms:List Mk) (j:Nat) (tp:Nat->Option P2):Prop where
 val:∀ t,t<=ps.length->fD ps ms t (tp t)
 top:∀ m∈ms.take j,∀ h,m.2.2=some h->el (tp m.1) h
theorem T1.nil {ps:List P2} {ms:List Mk}:T1 ps ms 0 fun _=>none:=⟨fun _ _ _ _ e=>(nomatch e),fun _ h=>by simp at h⟩
theorem T1.skip {ps:List P2} {ms:List Mk} {j:Nat} {tp:Nat->Option P2} {m:Mk} (T:T1 ps ms j tp) (hm:ms[j]?=some m) (hn:m.2.2=none):T1 ps ms (j+1) tp:=⟨T.val,fun q hq h e=>by
 rw[amK,hm] at hq
 rcases alK.mp hq with z|z
 ·exact T.top q z h e
 ·obtain rfl:q=m:=by simpa using z
  rw[hn] at e;cases e⟩
theorem T1.put {ps:List P2} {ms:List Mk} {j:Nat} {tp:Nat->Option P2} {m:Mk} {h:Int} (T:T1 ps ms j tp) (hm:ms[j]?=some m) (hh:m.2.2=some h):T1 ps ms (j+1) (iJ tp m.1 (iI (tp m.1) (some (h,(j:Int))))):=by
 have hv:fD ps ms m.1 (some (h,(j:Int))):=fun v k e=>by
  cases e
  exact⟨j,m,h,rfl,hm,hh,by rw[WH];lia⟩
 refine⟨fun t ht=>?_,fun q hq x e=>?_⟩
 ·by_cases e:t=m.1
  ·subst e;rw[ly];exact (T.val _ ht).AB hv
  ·rw[jt e];exact T.val t ht
 ·rw[amK,hm] at hq
  rcases alK.mp hq with z|z
  ·exact wb (T.top q z x e)
  ·obtain rfl:q=m:=by simpa using z
   rw[hh] at e
   cases e
   rw[ly]
   exact AA ⟨h,j,rfl,amF _⟩
structure T2 (ps:List P2) (ms:List Mk) (j:Nat) (tp:Nat->Option P2):Prop where
 val:∀ t,t<=ps.length->fD ps ms t (tp t)
 top:∀ m∈ms,∀ h,m.2.2=some h->el (tp m.1) h
 fwd:∀ t,t<j->∀ v,el (tp t) v->el (tp (t+1)) (v+(aK ps t).2)
theorem T1.two {ps:List P2} {ms:List Mk} {tp:Nat->Option P2} (T:T1 ps ms ms.length tp):T2 ps ms 0 tp:=⟨T.val,fun m h=>T.top m (by rw[amO];exact h),fun _ h=>absurd h (am5 _)⟩
theorem T2.step {ps:List P2} {ms:List Mk} {j:Nat} {tp:Nat->Option P2} (hp:dN ps) (hm:∀ m∈ms,m.1<=ps.length) (hj:j<ps.length) (T:T2 ps ms j tp):T2 ps ms (j+1) (iJ tp (j+1) (iI (tp (j+1)) (oT (tp j) (aK ps j).2))):=by
 refine⟨Nm T.val ((T.val _ (by lia)).AB ((T.val j (by lia)).lift hp hm (by lia) (by lia) (WI hj))),fun m h x e=>wb (T.top m h x e),fun t ht v hv=>?_⟩
 rw[jt (by lia)] at hv
 by_cases e:t=j
 ·subst e
  rw[ly]
  exact AA (Nl hv)
 ·rw[jt (by lia)]
  exact T.fwd t (by lia) v hv
structure T3 (ps:List P2) (ms:List Mk) (j:Nat) (tp:Nat->Option P2):Prop where
 val:∀ t,t<=ps.length->fD ps ms t (tp t)
 top:∀ m∈ms,∀ h,m.2.2=some h->el (tp m.1) h
 fwd:∀ t,t<ps.length->∀ v,el (tp t) v->el (tp (t+1)) (v+(aK ps t).2)
 bwd:∀ t,j<=t->t<ps.length->∀ v,el (tp (t+1)) v->el (tp t) (v-(aK ps t).1)
theorem T2.three {ps:List P2} {ms:List Mk} {tp:Nat->Option P2} (T:T2 ps ms ps.length tp):T3 ps ms ps.length tp:=⟨T.val,T.top,T.fwd,fun t h1 h2=>absurd h2 (by lia)⟩
theorem T3.step {ps:List P2} {ms:List Mk} {j:Nat} {tp:Nat->Option P2} (hp:dN ps) (hm:∀ m∈ms,m.1<=ps.length) (hj:j<ps.length) (T:T3 ps ms (j+1) tp):T3 ps ms j (iJ tp j (iI (tp j) (oT (tp (j+1)) (-(aK ps j).1)))):=by
 have h1:=hp _ (oH hj)
 refine⟨Nm T.val ((T.val _ (by lia)).AB ((T.val (j+1) (by lia)).lift hp hm (by lia) (by lia) (WJ hj))),fun m h x e=>wb (T.top m h x e),fun t ht v hv=>?_,fun t h2 h3 v hv=>?_⟩
 ·by_cases e:t=j
  ·subst e
   rw[ly] at hv
   rw[jt (by lia)]
   rcases Nk (tp t) (oT (tp (t+1)) (-(aK ps t).1)) with z|z
   ·rw[z] at hv;exact T.fwd t ht v hv
   ·rw[z] at hv
    obtain⟨w,k,e,hw⟩:=hv
    obtain⟨⟨w',k'⟩,e1,e2⟩:=alR.mp e
    cases e2
    exact⟨w',k',e1,by dsimp only at hw;lia⟩
  ·rw[jt e] at hv
   exact wb (T.fwd t ht v hv)
 ·rw[jt (by lia)] at hv
  by_cases e:t=j
  ·subst e
   rw[ly]
   refine AA ?_
   have:=Nl (b:=-(aK ps t).1) hv
   rwa [show v + -(aK ps t).1=v-(aK ps t).1 by lia] at this
  ·rw[jt e]
   exact T.bwd t (by lia) h3 v hv
theorem T3.tops {ps:List P2} {ms:List Mk} {tp:Nat->Option P2} (T:T3 ps ms 0 tp):jr ps ms tp :=
 ⟨fun t v k ht e=>T.val t ht v k e,T.top,fun t v k ht e=>T.fwd t ht v ⟨v,k,e,amF _⟩,fun t v k ht e=>T.bwd t (alv _) ht v ⟨v,k,e,amF _⟩⟩
theorem jr.clash {ps:List P2} {ms:List Mk} {tp:Nat->Option P2} (T:jr ps ms tp) {b:Mk} {v k l:Int} (hb:b.1<=ps.length) (e:tp b.1=some (v,k)) (hl:b.2.1=some l) (hv:v<l):∃ (i:Nat) (a:Mk),k=(i:Int)/\ms[i]?=some a/\clash ps a b:=by
 obtain⟨i,m,h,e1,e2,e3,h4⟩:=T.val _ v k hb e
 exact⟨i,m,e1,e2,h,l,e3,hl,by lia⟩
theorem AD {bx Nn:Nat->W2} {st b0:Nat->P2}:∀ t,(∀ k,k<=t->bx k=Nn k)->(∀ k,k<t->st k=b0 k)->bh bx st t=bh Nn b0 t
 | 0,h,_=>h 0 (alm _)
 | t+1,h,hs=>by
  unfold bh
  rw[h (t+1) (alm _),AD t (fun k hk=>h k (by lia)) (fun k hk=>hs k (by lia)),hs t (by lia)]
noncomputable def eo (ws:List W2) (t:Nat):W2:=ws.getD t none
noncomputable def bU (ss:List S2) (t:Nat):S2:=ss.getD t (none,none)
noncomputable def atT (ms:List Mk) (t:Nat):List S2:=(ms.filter fun m=>decide (m.1=t)).map (·.2)
noncomputable def b7 (ms:List Mk) (t:Nat):W2:=dq (none,none) (atT ms t)
theorem Np {ms:List Mk} {t:Nat} {x:Int}:dO (b7 ms t) x ↔ ∀ m∈ms,m.1=t->bL m.2 x:=by
 unfold b7
 rw[Au]
 unfold atT
 constructor
 ·intro h m hm e
  exact h _ (alF.mpr ⟨m,ama.mpr ⟨hm,by simpa using e⟩,rfl⟩)
 ·intro h s hs
  obtain⟨m,hm,rfl⟩:=alF.mp hs
  obtain⟨h1,h2⟩:=ama.mp hm
  exact h m h1 (by simpa using h2)
theorem WK (ms:List Mk) (t:Nat):sS (b7 ms t):=fun s e=>by
 unfold b7 dq at e
 split at e
 ·cases e
 ·rename_i h
  cases e
  simpa using h
theorem WL {ps:List P2} {ms:List Mk} {c:Nat->Int} (hc:j6 ps c) (hm:meets ms c):∀ t,t<=ps.length->bh (b7 ms) (aK ps) t≠none:=fun t ht e=>by
 obtain⟨s,es,_⟩:=Ng (bx:=b7 ms) (st:=aK ps) (c:=c) (n:=ps.length) (fun t _=>Np.mpr fun m cC e=>by rw[<- e];exact hm m cC) (fun t ht=>hc t ht) t ht
 rw[e] at es
 cases es
theorem Nq {ps:List P2} {ms:List Mk} (hp:dN ps) (hf:∀ t,t<=ps.length->bh (b7 ms) (aK ps) t≠none):wa ps.length (b7 ms) (aK ps):=Wy (WK ms 0) (fun t ht=>hp _ (oH ht)) hf
noncomputable def ju (ps:List P2):List P2:=ps.reverse.map fun p=>(-p.2,-p.1)
theorem WM {ps:List P2} {t:Nat} (h:t<ps.length):aK (ju ps) t=gE ps.length (aK ps) t:=by
 unfold ju gE aK
 rw[ak4,alz,anv h,ak4,ak9 (by lia)]
 rfl
theorem back_eq {ps:List P2} {ms:List Mk} {ss:List S2} (hl:ss.length=ps.length+1) (h:∀ t,t<ps.length+1->bh (b7 ms) (aK ps) t=some (bU ss t)) {t:Nat} (ht:t<=ps.length):bh (eo (ss.reverse.map some)) (aK (ju ps)) t=fB ps.length (b7 ms) (aK ps) (ps.length-t):=by
 unfold fB
 rw[show ps.length-(ps.length-t)=t by lia]
 refine AD t (fun k hk=>?_) fun k hk=>WM (by lia)
 rw[h (ps.length-k) (by lia)]
 unfold eo bU
 rw[ak4,alz,anv (by lia),hl,show ps.length+1-1-k=ps.length-k by lia,ak4,ak9 (by lia)]
 rfl
theorem WN {ss:List S2} {n t:Nat} (hl:ss.length=n+1) (ht:t<=n):bU ss.reverse t=bU ss (n-t):=by
 unfold bU
 rw[ak4,anv (by lia),ak4,hl,show n+1-1-t=n-t by lia]
theorem WO {ps:List P2} {ms:List Mk} (T:wa ps.length (b7 ms) (aK ps)) {t:Nat} (ht:t<ps.length) {x:Int} {s:S2} (hx:dO (fB ps.length (b7 ms) (aK ps) t) x) (hs:fB ps.length (b7 ms) (aK ps) (t+1)=some s):∃ r,gD s (eh (some x,some x) (aK ps t))=some r/\∀ y,bL r y->dO (fB ps.length (b7 ms) (aK ps) (t+1)) y/\(aK ps t).1<=y-x/\y-x<=(aK ps t).2:=by
 obtain⟨y,⟨s',e',hy⟩,h1,h2⟩:=T.next t x ht hx
 rw[hs] at e'
 cases e'
 have xx:bL (some x,some x) x:=⟨fun _ z=>by cases z;exact amF _,fun _ z=>by cases z;exact amF _⟩
 obtain⟨r,er,_⟩:=oR.mpr ⟨hy,Av xx h1 h2⟩
 refine⟨r,er,fun z hz=>?_⟩
 obtain⟨z1,z2⟩:=oR.mp ⟨r,er,hz⟩
 refine⟨⟨s,hs,z1⟩,?_⟩
 have a:=z2.1 (x+(aK ps t).1) rfl
 have b:=z2.2 (x+(aK ps t).2) rfl
 lia
noncomputable def a7 (cs:List Int) (t:Nat):Int:=cs.getD t 0
theorem meets_of {ps:List P2} {ms:List Mk} (T:wa ps.length (b7 ms) (aK ps)) (hm:∀ m∈ms,m.1<=ps.length) {c:Nat->Int} (h:∀ t,t<=ps.length->dO (fB ps.length (b7 ms) (aK ps) t) (c t)):meets ms c:=fun m cC=>Np.mp (T.sub _ _ (hm m cC) (h _ (hm m cC))) m cC rfl
noncomputable def c7 (ts:List (Option P2)) (t:Nat):Option P2:=ts.getD t none
theorem WQ {ts:List (Option P2)} {i:Nat} {x:Option P2} (h:i<ts.length):c7 (ts.set i x)=iJ (c7 ts) i x:=by
 funext t
 unfold c7 iJ
 rw[ak4,List.getElem?_set]
 by_cases e:t=i
 ·subst e;rw[if_pos rfl,if_pos rfl,if_pos h];rfl
 ·rw[if_neg (fun z=>e z.symm),if_neg e]
  exact (ak4 ..).symm
theorem WR (n:Nat):c7 (aod n none)=fun _=>none:=by
 funext t
 unfold c7
 rw[ak4,aou]
 split<;>rfl
end Gz
namespace Gz
open PySem L2
end Gz
namespace Gz
open PySem PySem.Spec PyProof.Rows L2
noncomputable def rowOf (H:Hp):V->List V
 | .ref p=>match H p with
  | some (.tup xs)=>xs
  | _=>[]
 | _=>[]
theorem sU {H:Hp} {p:ala} {xs:List V} (h:H p=some (.tup xs)):rowOf H (.ref p)=xs:=by
 show (match H p with
  | some (.tup xs)=>xs
  | _=>[])=xs
 rw[h]
noncomputable def lz (row:V->List V) (tt:TT):TT:=fun σ H Q=>match σ with
 | some v::ρ=>tt ((row v).map some++ρ) H Q
 | _=>False
noncomputable def lA (row:V->List V) (te:TE):TE:=fun σ H Q=>match σ with
 | some v::ρ=>te ((row v).map some++ρ) H Q
 | _=>False
section
variable {K:ak2} {ρ:L2.St} {tt:TT} {te:TE} {H:Hp} {Q:VK} {a:ala} {xs:List V} {row:V->List V}
noncomputable def sV (K:ak2) (a:ala) (xs:List V) (row:V->List V) (k:Nat) (H:Hp):Prop:=ah K H a xs/\∀ x∈xs,∃ p,x = .ref p/\aj K H p (row x)/\(row x).length=k
theorem WS {k:Nat} {g:TG} (hg:∀ (p:ala) (ys:List V) (os:List (Option V)) (H:Hp) (Q:L2.St->Hp->Prop),os.length=k->ys.length=k->aj K H p ys->Q (ys.map some++ρ) H->g (.ref p) (os++ρ) H Q)
 (hn:xs.length<=alI) (h:eM (sV K a xs row k) ρ (lz row tt) (lA row te) xs [] H fun zs H'=>∀ l,H' l=none->Q (.ref l) (upd H' l (.lst zs))) :
 vX k (iu K a) g ρ tt te H Q:=by
 refine⟨fun i m ys H=>m=xs.length-i/\i<=xs.length/\ys.length<=i/\eM (sV K a xs row k) ρ (lz row tt) (lA row te) (xs.drop i) ys H fun ys H'=>∀ l,H' l=none->Q (.ref l) (upd H' l (.lst ys)),⟨_,rfl,alv _,alm _,h⟩,?_⟩
 rintro i m ys H ⟨rfl,hi,hy,c⟩
 by_cases ba:i<xs.length
 ·have e:=amt ba
  rw[e] at c
  obtain⟨⟨c0,c1⟩,c2⟩:=c
  have l1:∀ y:V,(ys++[y]).length<=i+1:=fun y=>by rw[alD,aly];lia
  have l2:ys.length<=i+1:=by lia
  refine .inr ⟨⟨xs,_,c0,ak9 ba⟩,by lia,fun zs H'=>zs.length<=i+1/\eM (sV K a xs row k) ρ (lz row tt) (lA row te) (xs.drop (i+1)) zs H' fun ys H'=>∀ l,H' l=none->Q (.ref l) (upd H' l (.lst ys)),fun zs H' q=>⟨_,by lia,rfl,ba,q.1,q.2⟩,fun os WT v H' y=>?_⟩
  obtain⟨rfl,ex⟩:=y
  have ex:=ex xs c0
  rw[ak9 ba] at ex
  obtain⟨p,ep,hp,hl⟩:=c1 xs[i] (ao3 _)
  cases ex
  rw[ep] at hp hl c2 ⊢
  refine hg p _ os _ _ WT hl hp ⟨(row (.ref p)).map some,by rw[ak8];exact hl,rfl,?_⟩
  simp only[l1,l2,true_and]
  exact c2
 ·have e:i=xs.length:=by lia
  subst e
  rw[ar2] at c
  exact .inl ⟨⟨xs,c.1.1,alm _⟩,by lia,c.2⟩
theorem WU {p:ala} {ys:List V} {os:List (Option V)} {H:Hp} {Q:L2.St->Hp->Prop} (ho:os.length=3) (hy:ys.length=3) (h:aj K H p ys) (q:Q (ys.map some++ρ) H):kF K 3 (dz (de 0) (dz (de 1) (dz (de 2) jM))) (.ref p) (os++ρ) H Q:=by
 match os,ho,ys,hy with
 | [o1,o2,o3],_,[x,y,z],_=>exact v7 h q
theorem Nr (hn:xs.length<=alI) (h:eM (sV K a xs row 3) ρ (lz row tt) (lA row te) xs [] H fun zs H'=>∀ l,H' l=none->Q (.ref l) (upd H' l (.lst zs))) :
 vX 3 (iu K a) (kF K 3 (dz (de 0) (dz (de 1) (dz (de 2) jM)))) ρ tt te H Q:=WS (fun _ _ _ _ _ ho hy h q=>WU ho hy h q) hn h
end
end Gz
namespace Gz
open PySem PySem.Spec PyProof.Rows L2
theorem wc {α β:Type} {R:Hp->V->α->Prop} {R':Hp->V->β->Prop} {Ok:Hp->Prop} {ρ:L2.St} {tt:TT} {te:TE} {p:α->Bool} {f:α->β} {Q':List V->Hp->Prop} (mono:∀ H H' x a,ak H H'->R H x a->R H' x a) (oI:∀ H H' x a,ak H H'->R' H x a->R' H' x a):∀ {xs:List V} {as:List α} {zs:List V} {bs:List β} {H:Hp},ay (R H) xs as->ay (R' H) zs bs->(∀ H',ak H H'->Ok H') ->
 (∀ x a,a∈as->∀ H',ak H H'->R H' x a->∀ Q:Bool->Hp->Prop,Q (p a) H'->tt (some x::ρ) H' Q)->(∀ x a,a∈as->p a=true->∀ H',ak H H'->R H' x a->∀ Q:VK,(∀ H2 y,ak H' H2->R' H2 y (f a)->Q y H2)->te (some x::ρ) H' Q)->(∀ H' ws,ak H H'->ay (R' H') ws (bs++(as.filter p).map f)->Q' ws H')->eM Ok ρ tt te xs zs H Q'
 | [],[],zs,bs,H,_,hz,dj,_,_,q=>⟨dj H (ak.refl H),q H zs (ak.refl H) (by simpa using hz)⟩
 | x::xs,a::as,zs,bs,H,h,hz,dj,ht,he,q=>by
  refine⟨dj H (ak.refl H),ht x a (.head _) H (ak.refl H) h.1 _ ?_⟩
  by_cases hp:p a=true
  ·rw[if_pos hp]
   refine he x a (.head _) hp H (ak.refl H) h.1 _ fun H2 y s2 ry=>?_
   refine wc mono oI (bs:=bs++[f a]) (h.2.imp fun _ _ r=>mono _ _ _ _ s2 r) ((hz.imp fun _ _ r=>oI _ _ _ _ s2 r).snoc ry) (fun H' s'=>dj H' (s2.trans s')) (fun x b hb H' s'=>ht x b (.tail _ hb) H' (s2.trans s')) (fun x b hb hp H' s'=>he x b (.tail _ hb) hp H' (s2.trans s')) fun H' ws s' hw=>q H' ws (s2.trans s') ?_
   rw[amg,if_pos hp]
   simpa using hw
  ·rw[if_neg hp]
   refine wc mono oI h.2 hz dj (fun x b hb=>ht x b (.tail _ hb)) (fun x b hb hp=>he x b (.tail _ hb) hp) fun H' ws s' hw=>q H' ws s' ?_
   rw[amg,if_neg hp]
   exact hw
 | [],_::_,_,_,_,h,_,_,_,_,_=>h.elim
 | _::_,[],_,_,_,h,_,_,_,_,_=>h.elim
end Gz
namespace Gz
open PySem PySem.Spec PyProof.Rows L2
theorem WV (ai:List ak3):asq ai.toArray none none (some (-1))=ai.reverse.toArray:=by
 have e1:aop none none (some (-1)) ai.toArray.size=(((ai.length:Nat):Int)-1,-1,-1):=by
  rw[alo]
  rfl
 unfold asq
 rw[e1]
 dsimp only
 have e2:sliceRange (((ai.length:Nat):Int)-1) (-1) (-1)=(al4 ai.length).map fun k=>ai.length-1-k:=by
  unfold sliceRange
  have h1:¬ ((-1:Int) > 0):=by lia
  simp only[h1,if_false]
  by_cases h:ai.length=0
  ·rw[h];rfl
  ·rw[if_pos (by lia),show (((ai.length:Nat):Int)-1 - -1 - -1-1) / (- -1)=((ai.length:Nat):Int) by
    rw[show (- (-1:Int))=1 by lia,atf];lia,al1]
   refine anN fun k hk=>?_
   have:=anx.mp hk
   lia
 rw[e2]
 congr 1
 refine aoP fun k=>?_
 have key:((al4 ai.length).map fun k=>ai.length-1-k).filterMap (ai.toArray[·]?)=(al4 ai.length).map fun k=>ai.getD (ai.length-1-k) .none:=by
  rw[List.filterMap_map]
  have:∀ (l:List Nat),(∀ k∈l,k<ai.length)->l.filterMap ((fun x=>ai.toArray[x]?) ∘ fun k=>ai.length-1-k)=l.map fun k=>ai.getD (ai.length-1-k) .none:=by
   intro l
   induction l with
   | nil=>intro _;rfl
   | cons k l ih =>
    intro h
    have hk:=h k (.head _)
    rw[amx,alH]
    have e:((fun x=>ai.toArray[x]?) ∘ fun k=>ai.length-1-k) k=some (ai.getD (ai.length-1-k) .none):=by
     show ai.toArray[ai.length-1-k]?=_
     rw[aqN,ak4,ak9 (by lia)]
     rfl
    rw[e,ih fun j hj=>h j (.tail _ hj)]
  exact this _ fun k hk=>anx.mp hk
 rw[key]
 by_cases hk:k<ai.length
 ·rw[alz,amQ hk,anv hk]
  simp only[Option.map_some]
  rw[ak4,ak9 (by lia)]
  rfl
 ·rw[am4 (by rw[ak8,alN];lia),am4 (by rw[amy];lia)]
section
variable {X:Cx} {e st:am7} {te ts:TE} {p2 pos:Pos}
noncomputable def Nt (K:ak2) (te ts:TE):TE:=fun σ H Q=>te σ H fun x H1=>ts σ H1 fun y H2=>y = .int (-1)/\∃ a xs,x = .ref a/\ah K H2 a xs/\∀ p,H2 p=none->Q (.ref p) (upd H2 p (.lst xs.reverse))
theorem Nu (he:PE X e te) (hs:PE X st ts):PE X (.Subscript e (.Slice none none (some st) p2) pos) (Nt X.K te ts):=by
 intro pins s σ H Q I h
 refine arH (aC (he pins s σ H _ I h) fun v s1 ⟨x,H1,I1,r1,q1⟩=>?_)
 refine wpAny_Slice ?_
 rw[ars]
 refine ak6 (ak6 ?_)
 rw[evalPart_some]
 refine aC (hs pins s1 σ H1 _ I1 q1) fun u s2 ⟨y,H2,I2,r2,q2⟩=>?_
 obtain⟨rfl,a,xs,rfl,hx,q⟩:=q2
 obtain⟨t,rfl⟩:=r2
 cases r1
 have I4:Inv X pins σ H2 { s2 with heap:=s2.heap.push { cls:=.type "slice",data:=.fields #[.none,.none,.int (-1) t] } }:=I2.kept (t':=s2.toks) fun b ob q=>ak5 _ q
 obtain⟨ai,r,ht,hz⟩:=I4.list hx
 have hlen:=r.length
 show alu (model X.prog X.w) X.A (ap5 e (.Slice none none (some st) p2) (.ref a) (.ref s2.heap.objs.size)) (EP X pins σ Q) X.xe { s2 with heap:=s2.heap.push { cls:=.type "slice",data:=.fields #[.none,.none,.int (-1) t] } }
 refine tail_any (ops:=[.ref a,.ref s2.heap.objs.size]) ht.isList.typeIs slot_list_getitem.lookup ?_ (by with_unfolding_all rfl)
 refine apS ht.isList (Heap.IsSliceOf.new ..) .none .none (.int (-1) t) (by simp) ?_ (by rw[alo];lia)
 rw[WV]
 refine⟨.ref _,_,I4.laid (t':=s2.toks) (o:=.lst xs.reverse) (fun b ob q=>ak5 _ q) (alm _) ?_,rfl,q _ (I4.ao.fresh (alm _))⟩
 exact⟨by rw[amy];exact hz,_,0,r.reverse,aln _ rfl⟩
end
theorem WW {K:ak2} {a:ala} {xs:List V} {ρ:L2.St} {tt:TT} {te:TE} {H:Hp} {Q:VK} (hn:xs.length<=alI) (h:eM (fun H=>ah K H a xs) ρ tt te xs.reverse [] H fun ys H'=>∀ l,H' l=none->Q (.ref l) (upd H' l (.lst ys))):su (vT K a xs.length) ρ tt te H Q:=by
 have hr:xs.reverse.length=xs.length:=amy
 refine⟨fun i m ys H=>m=xs.length-i/\i<=xs.length/\ys.length<=i/\eM (fun H=>ah K H a xs) ρ tt te (xs.reverse.drop i) ys H fun ys H'=>∀ l,H' l=none->Q (.ref l) (upd H' l (.lst ys)),⟨_,rfl,alv _,alm _,h⟩,?_⟩
 rintro i m ys H ⟨rfl,hi,hy,g⟩
 by_cases ba:i<xs.length
 ·have e:=amt (show i<xs.reverse.length by lia)
  rw[e] at g
  obtain⟨g0,g1⟩:=g
  refine .inr ⟨⟨xs,_,g0,rfl,ak9 (by lia)⟩,by lia,fun zs H'=>zs.length<=i+1/\eM (fun H=>ah K H a xs) ρ tt te (xs.reverse.drop (i+1)) zs H' fun ys H'=>∀ l,H' l=none->Q (.ref l) (upd H' l (.lst ys)),fun zs H' q=>⟨_,by lia,rfl,ba,q.1,q.2⟩,fun x H' y=>?_⟩
  obtain⟨rfl,ex⟩:=y
  have ex:=ex xs g0 rfl
  rw[ak9 (by lia)] at ex
  cases ex
  have l1:∀ y:V,(ys++[y]).length<=i+1:=fun y=>by rw[alD,aly];lia
  have l2:ys.length<=i+1:=by lia
  simp only[l1,l2,true_and]
  exact g1
 ·have e:i=xs.length:=by lia
  subst e
  rw[aoD (by lia)] at g
  exact .inl ⟨rfl,by lia,g.2⟩
end Gz
namespace Gz
open PySem PySem.Spec PyProof.Rows L2
theorem AE (es:List Int):(es.map V.int).all i8=true:=by
 rw[List.all_map]
 exact amA.mpr fun _ _=>rfl
theorem wg (a:Int):∀ (es:List Int),vF (.int a) (es.map V.int)=es.contains a
 | []=>rfl
 | e::es=>by
  have ih:=wg a es
  unfold vF at *
  rw[alH,amN,ih,List.contains_cons]
  congr 1
  show (e == a)=(a == e)
  rw[anW]
  simp only[beq_iff_eq]
  exact eq_comm
theorem Nv {K:ak2} {H1 H':Hp} {l:ala} {ys:List V} {tb:Tb} (hl:H1 l=some (.lst ys)) (hM:ay (fc H1) ys tb) (s:ak H1 H'):sV K l ys (rowOf H1) 3 H':=by
 refine⟨ah.of (s _ _ hl),fun x hx=>?_⟩
 obtain⟨i,hi⟩:=am6.mp hx
 obtain⟨m,_,t,p,rfl,h1,h2⟩:=hM.get hi
 rw[sU h1]
 exact⟨t,rfl,aj.of (s _ _ h1),rfl⟩
noncomputable def eB (tb:Tb) (es:List Int):List Mk:=((gY tb).filter fun r=>!es.contains r.1.1).map fun r=>(r.1.2.toNat,r.2)
theorem map_some {α β:Type} {f:α->Option β}:∀ (l:List α),(l.map f).filterMap id=l.filterMap f
 | []=>rfl
 | a::l=>by
  rw[alH,amx,amx,map_some l]
  rfl
end Gz
namespace Gz
open PySem PySem.Spec PyProof.Rows L2
theorem cp {α:Type} {R:α->α->Prop}:∀ {l:List α},l.Pairwise R->∀ {p q:α},p∈l->q∈l->p=q∨R p q∨R q p
 | [],_,_,_,h,_=>by cases h
 | x::l,h,p,q,hp,hq=>by
  have h1:=ana.mp h
  rcases alk.mp hp with e1|i1<;>rcases alk.mp hq with e2|i2
  ·exact .inl (e1.trans e2.symm)
  ·rw[e1];exact .inr (.inl (h1.1 q i2))
  ·rw[e2];exact .inr (.inr (h1.1 p i1))
  ·exact cp h1.2 i1 i2
theorem Nw:∀ {a b:List Int},HT.lexLt a b=false->HT.lexLt b a=false->a=b
 | [],[],_,_=>rfl
 | [],_::_,h,_=>by cases h
 | _::_,[],_,h=>by cases h
 | x::a,y::b,h1,h2=>by
  rw[HT.kJ] at h1 h2
  by_cases e:x=y
  ·subst e
   rw[if_pos rfl] at h1 h2
   rw[Nw h1 h2]
  ·rw[if_neg e] at h1
   rw[if_neg (al5 e)] at h2
   have a1:¬ x<y:=by simpa using h1
   have a2:¬ y<x:=by simpa using h2
   exact absurd (aqF (Int.not_lt.mp a2) (Int.not_lt.mp a1)) e
theorem Nx {α:Type} {R:α->α->Prop}:∀ {as bs:List α},(∀ x∈as,∀ y∈as,R x y->R y x->x=y)->as.Pairwise R->bs.Pairwise R->as.Perm bs->as=bs
 | [],bs,_,_,_,h=>h.nil_eq
 | a::as,[],_,_,_,h=>by cases h.length_eq
 | a::as,b::bs,ha,s1,s2,h=>by
  have e:a=b:=by
   have m1:a∈b::bs:=h.mem_iff.mp (.head _)
   have m2:b∈a::as:=h.mem_iff.mpr (.head _)
   rcases alk.mp m1 with z|z
   ·exact z
   ·rcases alk.mp m2 with y|y
    ·exact y.symm
    ·exact ha a (.head _) b (.tail _ y) ((ana.mp s1).1 b y) ((ana.mp s2).1 a z)
  subst e
  rw[Nx (fun x hx y hy=>ha x (.tail _ hx) y (.tail _ hy)) (ana.mp s1).2 (ana.mp s2).2 (List.Perm.cons_inv h)]
theorem wj {tb:Tb}:(gY tb).Perm tb:=oE
theorem Ny {tb:Tb}:(gY tb).Pairwise fun a b=>HT.lexLt [b.1.1,b.1.2] [a.1.1,a.1.2]=false:=LZ (f:=fun r:P2 × S2=>[r.1.1,r.1.2]) rfl
theorem WX {tb:Tb} (hn:(tb.map (·.1)).Nodup) {x y:P2 × S2} (hx:x∈tb) (hy:y∈tb) (e:x.1=y.1):x=y:=by
 induction tb with
 | nil=>cases hx
 | cons r tb ih =>
  rw[alH,amo] at hn
  rcases alk.mp hx with a|a<;>rcases alk.mp hy with b|b
  ·rw[a,b]
  ·exact absurd (alF.mpr ⟨y,b,by rw[<- e,a]⟩) hn.1
  ·exact absurd (alF.mpr ⟨x,a,by rw[e,b]⟩) hn.1
  ·exact ih hn.2 a b
theorem WY {tb br:Tb} (hn:(tb.map (·.1)).Nodup) (h:tb.Perm br):gY tb=gY br:=by
 refine Nx (fun x hx y hy r1 r2=>WX hn (lr hx) (lr hy) ?_) Ny Ny (wj.trans (h.trans wj.symm))
 have:=Nw r1 r2
 injection this with e1 e2
 injection e2 with e2 _
 exact Prod.ext e1.symm e2.symm
end Gz
namespace Gz
open PySem PySem.Spec PyProof.Rows L2
local macro_rules | `(tactic| walk_at "om") => `(tactic| ((try simp only [PySem.Addr] at *); lia))
section
variable {prog:alr} {w:alS} {A:alY} {E:ak3->ak7->Prop} {s:ak7}
end
end Gz
namespace Gz
open PySem PySem.Spec PyProof.Rows L2
local macro_rules | `(tactic| walk_at "om") => `(tactic| ((try simp only [PySem.Addr] at *); lia))
section
variable {X:Cx} {pins:List (ala × Obj)} {σ:L2.St} {H:Hp} {s:ak7} {a:ala} {kvs:List (List Key × V)} {o:Obj} {u u':HO}
noncomputable def Loose:HO->Prop
 | .dT _=>True
 | .aX _ (.dT _)=>True
 | _=>False
theorem Nz (I:Inv X pins σ H s) (e:H a=some u) (lu:Loose u) (h0:∀ o v,X.H₀ a≠some (.aX o v)) (new:bD X.prog X.w (upd H a u') s.heap a u'):Inv X pins σ (upd H a u') s:=by
 have nn:∀ b,H b=none->b≠a:=fun b h z=>by rw[z,e] at h;cases h
 have nt:∀ b xs,H b=some (.tup xs)->b≠a:=fun b xs h z=>by rw[z,e] at h;cases h;exact lu
 have no:∀ b x,H b=some (.own x)->b≠a:=fun b x h z=>by rw[z,e] at h;cases h;exact lu
 have nb:∀ b ps,H b=some (.tbl ps)->b≠a:=fun b ps h z=>by rw[z,e] at h;cases h;exact lu
 refine⟨I.ok,I.os,I.bare,⟨I.base.keep,I.base.slot,fun b o e1 n hx=>?_,I.base.there,fun b xs e1=>?_,fun b o v e1=>?_,fun b ps e1=>?_⟩,I.loc,I.cell,?_,fun x c e1=>?_,fun p hp=>?_,fun b ob e1=>?_,I.len⟩
 ·have:=I.base.free b o e1 n hx
  rw[aH (nn b this)];exact this
 ·have:=I.base.ff b xs e1
  rw[aH (nt b xs this)];exact this
 ·have:=I.base.eG b o v e1
  rw[aH (show b≠a from fun z=>h0 o v (by rw[<- z];exact e1))];exact this
 ·obtain⟨more,this⟩:=I.base.fg b ps e1
  exact⟨more,by rw[aH (nb b _ this)];exact this⟩
 ·rw[aH (nn _ I.free)];exact I.free
 ·have:=I.gj x c e1
  rw[aH (nn c this)];exact this
 ·obtain⟨p1,p2,p3⟩:=I.pin p hp
  exact⟨p1,by rw[aH (nn _ p2)];exact p2,p3⟩
 ·by_cases hb:b=a
  ·subst hb
   rw[au] at e1
   cases e1
   exact new
  ·rw[aH hb] at e1
   exact (I.ao b ob e1).fI (fun _ _ _ q=>q) (fun c h=>by rw[aH (no c _ h)];exact h) fun c xs h=>by rw[aH (nt c xs h)];exact h
theorem WZ (I:Inv X pins σ H s) (e:H a=some (.dT kvs)):∃ o,Inv X pins σ (upd H a (.aX o (.dT kvs))) s/\∀ o v,X.H₀ a≠some (.aX o v):=by
 have h0:∀ o v,X.H₀ a≠some (.aX o v):=fun o v z=>by
  have:=I.base.eG a o v z
  rw[e] at this;cases this
 have ok:=I.ao a _ e
 obtain⟨_,_,_,_,o,_,_,ho,_⟩:=id ok
 refine⟨o,Nz I e trivial h0 ⟨ho,ok.fI (fun _ _ _ q=>q) (fun c h=>?_) fun c xs h=>?_⟩,h0⟩
 ·rw[aH fun z=>by rw[z,e] at h;cases h];exact h
 ·rw[aH fun z=>by rw[z,e] at h;cases h];exact h
theorem wk (I:Inv X pins σ H s) (e:H a=some (.aX o (.dT kvs))) (h0:∀ o v,X.H₀ a≠some (.aX o v)):Inv X pins σ (upd H a (.dT kvs)) s:=by
 obtain⟨_,ok⟩:=I.ao a _ e
 refine Nz I e trivial h0 (ok.fI (fun _ _ _ q=>q) (fun c h=>?_) fun c xs h=>?_)
 ·rw[aH fun z=>by rw[z,e] at h;cases h];exact h
 ·rw[aH fun z=>by rw[z,e] at h;cases h];exact h
noncomputable def NA (a:ala) (o:Obj) (kvs:List (List Key × V)) (D:Ends):Ends where
 nx:=fun σ H=>H a=some (.aX o (.dT kvs))/\D.nx σ (upd H a (.dT kvs))
 rt:=fun v H=>H a=some (.aX o (.dT kvs))/\D.rt v (upd H a (.dT kvs))
 bk:=fun σ H=>H a=some (.aX o (.dT kvs))/\D.bk σ (upd H a (.dT kvs))
 ct:=fun σ H=>H a=some (.aX o (.dT kvs))/\D.ct σ (upd H a (.dT kvs))
noncomputable def NB (t:TS):TS:=fun D σ H=>∃ a kvs,H a=some (.dT kvs)/\∀ o,t (NA a o kvs D) σ (upd H a (.aX o (.dT kvs)))
theorem W0 {st:anD} {t:TS} (h:PS X st t):PS X st (NB t):=by
 rintro pins s σ H D I ⟨a,kvs,e,q⟩
 obtain⟨o,I1,h0⟩:=WZ I e
 refine aC (h pins s σ _ _ I1 (q o)) fun f s' hf=>?_
 cases f with
 | next=>obtain⟨σ',H',I',e',q'⟩:=hf;exact⟨σ',_,wk I' e' h0,q'⟩
 | brk=>obtain⟨σ',H',I',e',q'⟩:=hf;exact⟨σ',_,wk I' e' h0,q'⟩
 | cont=>obtain⟨σ',H',I',e',q'⟩:=hf;exact⟨σ',_,wk I' e' h0,q'⟩
 | ret v=>obtain⟨v',σ',H',I',r',e',q'⟩:=hf;exact⟨v',σ',_,wk I' e' h0,r',q'⟩
noncomputable def W3 (t:TE):TE:=fun σ H Q=>∃ a kvs,H a=some (.dT kvs)/\∀ o,t σ (upd H a (.aX o (.dT kvs))) fun v H'=>H' a=some (.aX o (.dT kvs))/\Q v (upd H' a (.dT kvs))
noncomputable def iK (o:Obj):List V:=match o.data with
 | .dict es _=>es.toList.map fun e=>match e.key with
  | .ref a=>V.ref a
  | _=>V.non
 | _=>[]
noncomputable def wm (a:ala) (o:Obj) (kvs:List (List Key × V)):It where
 go i H:=H a=some (.aX o (.dT kvs))/\i<kvs.length
 yld i H x H':=H'=H/\(iK o)[i]?=some x
 stop i H:=H a=some (.aX o (.dT kvs))/\kvs.length<=i
noncomputable def AF (tl:TE):TI:=fun σ H R=>tl σ H fun x H1=>∃ a o kvs,x = .ref a/\H1 a=some (.aX o (.dT kvs))/\(gB H1 (iK o) kvs->R (wm a o kvs) H1)
theorem AG {P:alr} {w:alS} {h:amH} (ok:bQ P w H h) (e:H a=some (.aX o (.dT kvs))):∃ (as:List ala) (es:Array anl) (ep:Nat),gB H (iK o) kvs/\(a == am2)=false/\fz h a es ep/\o.data = .dict es ep/\es.size=kvs.length/\kvs.length<=alI/\∀ i (hi:i<es.size),∃ b,es[i].key = .ref b/\(iK o)[i]?=some (.ref b):=by
 obtain⟨ho,z,lo,xs,rel,o',es,ep,cK,hc,hd,he,hn⟩:=ok a _ e
 rw[ho] at cK
 cases cK
 have hl:xs.length=kvs.length:=(Paired.length rel).symm
 have hs:es.size=xs.length:=an2 he
 have ek:iK o=(xs.map (·.2.1)).map V.ref:=by
  unfold iK
  rw[hd]
  show es.toList.map _=_
  rw[he,anI,anI]
  exact anN fun x _=>rfl
 refine⟨xs.map (·.2.1),es,ep,?_,lo,⟨o,ho,hc,hd⟩,hd,hs.trans hl,z,fun i hi=>?_⟩
 ·rw[ek];exact KT.MO rel
 ·have hx:i<xs.length:=by lia
  have e1:=entry_at he i
  rw[alV hi,ak9 hx] at e1
  have e2:es[i]=arA (apa (dS P w)) xs[i]:=by simpa using e1
  refine⟨xs[i].2.1,by rw[e2];rfl,?_⟩
  rw[ek,alz,alz,ak9 hx]
  rfl
theorem W4 {P:alr} {w:alS} {K:ak2} {tg:am7} (a it:ala) (o:Obj) (kvs:List (List Key × V)) (bK:a≠it):Turn P w K tg (wm a o kvs) [it] it (fun i h=>∃ es ep,o.data = .dict es ep/\i<=es.size/\h.IsKeyIter it a i es.size ep) where
 mem:=by simp
 obj:=fun i h st b hb=>by
  have e:b=it:=by simpa using hb
  subst e
  obtain⟨es,ep,_,_,ob,e,c,d⟩:=st
  exact⟨ob,e,fun v z=>by rw[d] at z;cases z⟩
 keep:=fun i h h' st k=>by
  obtain⟨es,ep,h1,h2,ob,e,c,d⟩:=st
  exact⟨es,ep,h1,h2,ob,k it (by simp) ob e,c,d⟩
 item:=by
  intro X hP hw hK hc i pins s σ H E I hf st hg
  subst hP hw hK
  obtain⟨e,hi⟩:=hg
  obtain⟨es,ep,hd,hle,hit⟩:=st
  obtain⟨as,es',rL,hk,lo,raw,gM,hs,hz,fP⟩:=AG I.ao e
  rw[hd] at gM
  cases gM
  obtain⟨f0,f1,f2,f3,f4,f5⟩:=hf it (by simp)
  have bM:i<es.size:=by lia
  obtain⟨b,eb,kb⟩:=fP i bM
  refine MH hit raw bM fun h' jn sb=>?_
  have I1:Inv X pins σ H { s with heap:=h' }:=I.turned (t':=s.toks) (fun b o hb e=>(sb.2 b hb).trans e) f0 f1 f3 f4 f5
  obtain⟨ob,e1,c1,d1⟩:=id jn
  exact⟨es[i].key,rfl,n4 (s:={ s with heap:=h' }) e1 c1 d1 (by decide) ⟨.ref b,H,I1,eb,⟨rfl,kb⟩,⟨es,ep,hd,bM,jn⟩,fun b hb=>(hf b hb).1⟩⟩
 done:=by
  intro X hP hw hK hc i pins s σ H E I hf st hg
  subst hP hw hK
  obtain⟨e,hi⟩:=hg
  obtain⟨es,ep,hd,hle,hit⟩:=st
  obtain⟨as,es',rL,hk,lo,raw,gM,hs,hz,fP⟩:=AG I.ao e
  rw[hd] at gM
  cases gM
  obtain⟨f0,f1,f2,f3,f4,f5⟩:=hf it (by simp)
  have ei:i=es.size:=by lia
  subst ei
  exact MI (I.ok.hd hc) hit raw fun h' eb=>⟨rfl,I.turned (t':=s.toks) (fun b o hb e=>eb b o hb e) f0 f1 f3 f4 f5⟩
 self:=fun _ _ _ _ _ st h=>by
  obtain⟨es,ep,_,_,hit⟩:=st
  exact aq0 hit h
theorem W8 {tg l:am7} {tl:TE} (hl:PE X l tl):PI X tg l (AF tl):=by
 intro pins s σ H R I h
 refine aC (hl pins s σ H _ I h) fun v s1 ⟨x,H1,I1,r1,q1⟩=>?_
 obtain⟨a,o,kvs,e,hf,q⟩:=q1
 subst e
 cases r1
 obtain⟨as,es,ep,hk,lo,raw,hd,hs,hz,fP⟩:=AG I1.ao hf
 refine MG lo raw ?_
 refine⟨s1.heap.objs.size,[s1.heap.objs.size],_,_,H1,rfl,I1.kept (t':=s1.toks) fun b o e=>ak5 _ e,W4 a _ o kvs (alA raw.lt),⟨es,ep,hd,alv _,_,aln _ rfl,rfl,rfl⟩,fun b hb=>?_,q hk⟩
 have e:b=s1.heap.objs.size:=by simpa using hb
 subst e
 exact I1.fL (alm _) (I1.ao.fresh (alm _))
theorem W9 {tl:TE} {g:TG} {tb:TS} {D:Ends}:ix (AF tl) g tb D σ H=tl σ H (fun x H1=>∃ a o kvs,x = .ref a/\H1 a=some (.aX o (.dT kvs))/\(gB H1 (iK o) kvs->FJ (wm a o kvs) g tb D σ H1)):=rfl
theorem Xa {g:TG} {tb:TS} {D:Ends} {xs:List V} (Pv:Nat->L2.St->Hp->Prop) (hk:iK o=xs) (hxl:xs.length=kvs.length) (h0:Pv 0 σ H) (hl:∀ i σ H,i<=xs.length->Pv i σ H->H a=some (.aX o (.dT kvs)))
 (hs:∀ i x σ H,xs[i]?=some x->Pv i σ H->g x σ H fun σ2 H2=>tb { D with nx:=Pv (i+1),ct:=Pv (i+1),bk:=D.nx } σ2 H2) (hd:∀ σ H,Pv xs.length σ H->D.nx σ H):FJ (wm a o kvs) g tb D σ H:=by
 refine⟨fun i m σ H=>m=xs.length-i/\i<=xs.length/\Pv i σ H,⟨xs.length,by simp,alv _,h0⟩,?_⟩
 rintro i m σ H ⟨rfl,hi,p⟩
 have q:=hl i σ H hi p
 by_cases ba:i<xs.length
 ·refine .inr ⟨⟨q,by lia⟩,Pv (i+1),fun σ' H' p'=>⟨xs.length-(i+1),by lia,rfl,ba,p'⟩,fun x H' y=>?_⟩
  obtain⟨e,y⟩:=y
  subst e
  rw[hk] at y
  exact hs i x σ _ y p
 ·have e:i=xs.length:=by lia
  subst e
  exact .inl ⟨⟨q,by lia⟩,hd σ H p⟩
end
theorem wt {H:Hp} {a p:ala} {u v w:HO} (e:H a=some u) (h:H p=some v) (ne:v≠u):upd H a w p=some v:=by rw[aH (vf h e ne)];exact h
section
variable {H H0 H1:Hp} {a p:ala} {kvs:List (List Key × V)} {o:Obj}
theorem Xb (e:H0 a=some (.dT kvs)) (s:ak (upd H0 a (.aX o (.dT kvs))) H1):ak H0 (upd H1 a (.dT kvs)):=fun b u h=>by
 by_cases hb:b=a
 ·subst hb;rw[e] at h;cases h;exact au
 ·rw[aH hb];exact s b u (by rw[aH hb];exact h)
theorem Xc {xs:List V} (e:H a=some (.dT kvs)) (h:H p=some (.tup xs)) {u:HO}:upd H a u p=some (.tup xs):=wt e h fun z=>nomatch z
theorem NC {xs:List V} (e:H a=some (.dT kvs)) (h:H p=some (.lst xs)) {u:HO}:upd H a u p=some (.lst xs):=wt e h fun z=>nomatch z
theorem Xd {xs:List V} (e:H a=some (.aX o (.dT kvs))) (h:H p=some (.lst xs)) {u:HO}:upd H a u p=some (.lst xs):=wt e h fun z=>nomatch z
theorem aV.aX {v:V} {x y:En} (h:aV H v x y) (e:H a=some (.dT kvs)) {u:HO}:aV (upd H a u) v x y:=let ⟨t,e1,h1⟩:=h;⟨t,e1,Xc e h1⟩
theorem a9.aX {tb:Tb} (h:a9 H kvs tb) (e:H a=some (.dT kvs)) {u:HO}:a9 (upd H a u) kvs tb:=h.imp fun _ _ _ z=>z.aX e
theorem Xe {K:ak2} {xs:List V} (e:H a=some (.dT kvs)) (h:ah K H p xs):ah K (upd H a (.aX o (.dT kvs))) p xs:=by
 rcases h with (h|⟨z,h⟩)|h
 ·exact .inl (.inl (NC e h))
 ·exact .inl (.inr ⟨z,wt e h fun z=>nomatch z⟩)
 ·exact .inr h
end
theorem cu.z {H:Hp} {a b:ala} {kvs:List (List Key × V)} {k:List Key} {o:Obj} (e:H a=some (.aX o (.dT kvs))) (eb:H b=some (.tup (k.map kV))):cu H a (.ref b) (bF kvs k):=.inr ⟨kvs,k,b,.inr ⟨o,e⟩,rfl,eb,rfl⟩
end Gz
namespace Gz
open PySem PySem.Spec PyProof.Rows L2
noncomputable def j7 (tb:Tb) (i:Int):List Mk:=((gY tb).filter fun r=>decide (r.1.1=i)).map fun r=>(r.1.2.toNat,r.2)
noncomputable def lB (cs:List Int) (t:Nat):Int:=cs.getD t 0
theorem ND {cs:List Int} {t:Nat} (h:t<cs.length):(cs.map V.int)[t]?=some (V.int (lB cs t)):=by
 rw[alz,ak9 h]
 unfold lB
 rw[ak4,ak9 h]
 rfl
theorem Xf {tb rs:Tb} {s:P2} {w:S2} (h:tb.Perm rs):(dm tb s w).Perm (dm rs s w):=by
 have e:(tb.any fun r=>decide (r.1=s))=rs.any fun r=>decide (r.1=s):=by
  rw[anW,ao4,ao4]
  exact⟨fun ⟨x,h1,h2⟩=>⟨x,h.mem_iff.mp h1,h2⟩,fun ⟨x,h1,h2⟩=>⟨x,h.mem_iff.mpr h1,h2⟩⟩
 unfold dm
 rw[e]
 split
 ·exact h.map _
 ·exact h.append_right _
theorem Xg {tb rs:Tb} {s:P2} (h:tb.Perm rs):(lq tb s).Perm (lq rs s):=h.filter _
theorem Xh {tb:Tb} {s:P2} {w:S2} {r:P2 × S2} (h:r∈dm tb s w):r∈tb∨r=(s,w):=by
 unfold dm at h
 split at h
 ·obtain⟨x,hx,rfl⟩:=alF.mp h
  by_cases e:x.1=s
  ·rw[if_pos e,e];exact .inr rfl
  ·rw[if_neg e];exact .inl hx
 ·rcases alK.mp h with z|z
  ·exact .inl z
  ·exact .inr (alP.mp z)
end Gz
namespace Gz
open PySem PySem.Spec PyProof.Rows L2
local macro_rules | `(tactic| walk_at "om") => `(tactic| ((try simp only [PySem.Addr] at *); lia))
section
variable {X:Cx} {pins:List (ala × Obj)} {σ:L2.St} {H2:Hp} {s2:ak7} {x:Str} {px pos:Pos} {elt iter:am7} {ifs:List am7} {scope:apo} {cl:List (Str × ala)} {fr:List Nat} {ys:List Str} {tt:TT} {te:TE}
end
end Gz
namespace j8
open PySem
noncomputable def lC (mask i:Nat):List Nat:=(al4 (anp mask i+1-i)).map (i + ·)
noncomputable def gh (mask:Nat):Nat->Nat->Nat->List Nat
 | 0,_,_=>[]
 | n+1,i,p=>lC mask i++gh mask n (anw mask i p).1 (anw mask i p).2
noncomputable def road (mask:Nat) (h:Int):List Nat:=gh mask (apH mask) (SetTable.bits h % (mask+1)) (SetTable.bits h)
noncomputable def AH (mask:Nat):Nat->Nat->List Nat
 | 0,_=>[]
 | n+1,i=>i::AH mask n ((i * 5+1) % (mask+1))
noncomputable def wu (l:List Nat):Nat:=l.foldr (fun x a=>a ||| 2 ^ x) 0
theorem NF (j:Nat):∀ l:List Nat,(wu l).testBit j=true->j∈l
 | [],h=>by simp[wu] at h
 | x::l,h=>by
  have h':((wu l) ||| 2 ^ x).testBit j=true:=h
  rw[Nat.testBit_or,aow] at h'
  rcases h' with h'|h'
  ·exact alT _ (NF j l h')
  ·rw[Nat.testBit_two_pow] at h'
   rw[of_decide_eq_true h'];exact am8
theorem Xi (mask i:Nat):i∈lC mask i:=by
 unfold lC
 refine alF.mpr ⟨0,anx.mpr ?_,rfl⟩
 unfold anp;split<;>lia
theorem NG (mask:Nat):∀ (n i:Nat),∀ x∈AH mask n i,x∈gh mask n i 0
 | 0,_,x,h=>by cases h
 | n+1,i,x,h=>by
  rcases alk.mp h with rfl|h
  ·exact amE _ (Xi _ _)
  ·refine alq _ ?_
   have:=NG mask n _ x h
   simpa [anw] using this
theorem NH (mask:Nat):∀ (k n i p:Nat),i<=mask->∃ i',i'<=mask/\∀ x∈gh mask n i' (p / 32 ^ k),x∈gh mask (k+n) i p
 | 0,n,i,p,hi=>⟨i,hi,fun x h=>by simpa using h⟩
 | k+1,n,i,p,hi=>by
  obtain⟨i',hi,h⟩:=NH mask k n (anw mask i p).1 (anw mask i p).2 (aoQ (aqT _ (by lia)))
  refine⟨i',hi,fun x hx=>?_⟩
  rw[show k+1+n=(k+n)+1 from by lia]
  refine alq _ (h x ?_)
  have:(anw mask i p).2 / 32 ^ k=p / 32 ^ (k+1):=by
   show p / 32 / 32 ^ k=_
   rw[Nat.div_div_eq_div_mul,Nat.pow_succ,Nat.mul_comm]
  rw[this];exact hx
noncomputable def wx (m:Nat):Prop:=m=7∨m=31∨m=127
theorem Xj {m:Nat} (hm:wx m):((al4 (m+1)).all fun i=>wu (AH m (m+2) i) == 2 ^ (m+1)-1)=true:=by
 rcases hm with rfl|rfl|rfl<;>decide +kernel
theorem Xk {m:Nat} (hm:wx m) (h:Int) {j:Nat} (hj:j<=m):j∈road m h:=by
 unfold road
 have hb:SetTable.bits h<2 ^ 64:=by unfold SetTable.bits;lia
 obtain⟨i',hi,k⟩:=NH m 13 (m+2) (SetTable.bits h % (m+1)) (SetTable.bits h) (aoQ (aqT _ (by lia)))
 rw[show apH m=13+(m+2) from by unfold apH;lia]
 refine k j ?_
 rw[Nat.div_eq_of_lt (alC hb (by decide))]
 refine NG m _ _ j (NF j _ ?_)
 have:=amA.mp (Xj hm) i' (anx.mpr (by lia))
 rw[eq_of_beq this,Nat.testBit_two_pow_sub_one]
 simp;lia
theorem Xl {m i x:Nat} (hi:i<=m) (h:x∈lC m i):x<=m:=by
 unfold lC at h
 obtain⟨k,hk,rfl⟩:=alF.mp h
 have:=anx.mp hk
 unfold anp at this;split at this<;>lia
theorem NI {m:Nat}:∀ (n i p:Nat),i<=m->∀ x∈gh m n i p,x<=m
 | 0,_,_,_,x,h=>by cases h
 | n+1,i,p,hi,x,h=>by
  rcases alK.mp h with h|h
  ·exact Xl hi h
  ·exact NI n _ _ (aoQ (aqT _ (by lia))) x h
theorem Xm {m:Nat} {h:Int} {x:Nat} (hx:x∈road m h):x<=m:=NI _ _ _ (aoQ (aqT _ (by lia))) x hx
theorem NJ {α:Type} [DecidableEq α] (p:α->Prop) [DecidablePred p]:∀ l:List α,(∃ x∈l,p x)->∃ a x b,l=a++x::b/\p x/\∀ y∈a,¬ p y
 | [],⟨x,h,_⟩=>by cases h
 | y::l,⟨x,h,px⟩=>by
  by_cases py:p y
  ·exact⟨[],y,l,rfl,py,fun _ h=>by cases h⟩
  ·rcases alk.mp h with rfl|h
   ·exact absurd px py
   ·obtain⟨a,z,b,e,pz,k⟩:=NJ p l ⟨x,h,px⟩
    exact⟨y::a,z,b,by rw[e];rfl,pz,fun q hq=>(alk.mp hq).elim (fun e=>e ▸ py) (k q)⟩
noncomputable def j9 (t:aoa):Nat->aoV->List Nat
 | 0,_=>[]
 | n+1,p=>p.j::j9 t n (t.advance p)
theorem NK (t:aoa):∀ (k n:Nat) (p:aoV),p.more+1=k->∃ p',j9 t (k+n) p=(al4 k).map (p.j + ·)++j9 t n p' /\
 p'.i=(anw t.mask p.i p.perturb).1/\p'.j=p'.i/\p'.more=anp t.mask p'.i-p'.i/\p'.perturb=(anw t.mask p.i p.perturb).2/\p'.dummy=p.dummy
 | 0,n,p,h=>by lia
 | 1,n,p,h=>by
  refine⟨t.advance p,?_,?_⟩
  ·rw[atg];simp[j9,List.range_succ]
  ·have:p.more=0:=by lia
   simp[aqf,this,anw]
 | k+2,n,p,h=>by
  have hm:p.more > 0:=by lia
  have ha:t.advance p = { p with j:=p.j+1,more:=p.more-1 }:=by simp[aqf,hm]
  obtain⟨p',e,r⟩:=NK t (k+1) n (t.advance p) (by rw[ha];show p.more-1+1=k+1;lia)
  rw[ha] at e r
  refine⟨p',?_,r⟩
  rw[show k+2+n=(k+1+n)+1 from by lia]
  show p.j::j9 t (k+1+n) (t.advance p)=_
  rw[ha,e,List.range_succ_eq_map (n:=k+1)]
  simp only[alH,anI,atd,arZ,apj,true_and]
  congr 1
  apply anN
  intro a _
  simp;lia
theorem NL (t:aoa):∀ (n m:Nat) (p:aoV),p.j=p.i->p.more=anp t.mask p.i-p.i->10 * n<=m->∃ r,j9 t m p=gh t.mask n p.i p.perturb++r
 | 0,m,p,_,_,_=>⟨_,rfl⟩
 | n+1,m,p,hj,hm,hl=>by
  have hk:p.more+1<=10:=by rw[hm];unfold anp;split<;>lia
  obtain⟨p',e,e1,e2,e3,e4,e5⟩:=NK t (p.more+1) (m-(p.more+1)) p rfl
  rw[show p.more+1+(m-(p.more+1))=m from by lia] at e
  obtain⟨r,er⟩:=NL t n (m-(p.more+1)) p' e2 e3 (by lia)
  refine⟨r,?_⟩
  rw[e,er,e1,e4,<- aoO]
  congr 1
  show _=lC t.mask p.i++_
  congr 1
  unfold lC
  rw[hj,show anp t.mask p.i+1-p.i=p.more+1 from by rw[hm];unfold anp;split<;>lia]
theorem Xn (t:aoa) (h:Int):∃ r,j9 t (10 * apH t.mask) (t.probeStart h)=road t.mask h++r :=
 NL t _ _ _ rfl rfl (alm _)
theorem Xo (t:aoa) (p:aoV):(t.advance p).dummy=p.dummy:=by unfold aqf;split<;>rfl
theorem NM (t:aoa) (f:Nat->Int) (h:Int) (j:Nat) (r:List Nat) (hj:t.slot j = .empty):∀ (l:List Nat) (n:Nat) (p:aoV),j9 t n p=l++j::r ->
 (∀ q∈l,∃ i,t.slot q = .live i/\f i≠h)->SetTable.probe.go t f h n p=some (.empty j p.dummy)
 | l,0,p,e,_=>by cases l<;>cases e
 | [],n+1,p,e,_=>by
  obtain⟨e1,_⟩:=List.cons.inj e
  simp only[SetTable.probe.go,e1,hj]
 | q::l,n+1,p,e,hl=>by
  obtain⟨e1,e2⟩:=List.cons.inj e
  obtain⟨i,hi,hf⟩:=hl q am8
  simp only[SetTable.probe.go,e1,hi,beq_iff_eq,hf,if_false]
  rw[NM t f h j r hj l n _ e2 (fun q hq=>hl q (alT _ hq)),Xo]
theorem AI (xs:Array Nat) (j:Nat):∀ (n lo hi:Nat),hi-lo<=n->lo<=hi->hi<=xs.size->(∀ k,k<lo->xs.getD k j<j)->(∀ k,hi<=k->k<xs.size->¬ xs.getD k j<j) ->
 (∀ a b,a<b->b<xs.size->xs.getD a j<xs.getD b j) ->
 let r:=SetTable.below.go xs j n lo hi
 r<=xs.size/\(∀ k,k<r->xs.getD k j<j)/\(∀ k,r<=k->k<xs.size->¬ xs.getD k j<j)
 | 0,lo,hi,hn,hl,hs,h1,h2,hr=>by
  obtain rfl:lo=hi:=by lia
  exact⟨hs,h1,h2⟩
 | n+1,lo,hi,hn,hl,hs,h1,h2,hr=>by
  dsimp only
  unfold SetTable.below.go
  by_cases ba:lo<hi
  ·simp only[ba,if_true]
   by_cases hm:xs.getD ((lo+hi) / 2) j<j
   ·simp only[hm,if_true]
    exact AI xs j n _ hi (by lia) (by lia) hs (fun k hk=>by
     by_cases e:k=(lo+hi) / 2
     ·rw[e];exact hm
     ·have:=hr k ((lo+hi) / 2) (by lia) (by lia)
      lia) h2 hr
   ·simp only[hm,if_false]
    exact AI xs j n lo _ (by lia) (by lia) (by lia) h1 (fun k hk dk=>by
     by_cases e:k=(lo+hi) / 2
     ·rw[e];exact hm
     ·have:=hr ((lo+hi) / 2) k (by lia) dk
      lia) hr
  ·simp only[ba,if_false]
   obtain rfl:lo=hi:=by lia
   exact⟨hs,h1,h2⟩
noncomputable def lh (l:List Nat):Prop:=l.Pairwise (· < ·)
theorem Xp {l:List Nat} (h:lh l) (j:Nat) {a b:Nat} (eK:a<b) (hb:b<l.toArray.size):l.toArray.getD a j<l.toArray.getD b j:=by
 have bE:b<l.length:=by simpa using hb
 have:=anA.mp h a b (by lia) bE eK
 simpa [apW,bE,show a<l.length from by lia] using this
theorem wy {l:List Nat} (h:lh l) (j:Nat):let r:=SetTable.below l.toArray j
 r<=l.length/\(∀ x∈l.take r,x<j)/\(∀ x∈l.drop r,j<=x):=by
 have k:=AI l.toArray j l.toArray.size 0 l.toArray.size (by lia) (by lia) (by lia) (fun k hk=>by lia) (fun k oU dk=>by lia) (fun a b eK hb=>Xp h j eK hb)
 dsimp only at k ⊢
 rw[show SetTable.below.go l.toArray j l.toArray.size 0 l.toArray.size=SetTable.below l.toArray j from rfl] at k
 obtain⟨k1,k2,k3⟩:=k
 have Xq:SetTable.below l.toArray j<=l.length:=by simpa using k1
 refine⟨Xq,fun x hx=>?_,fun x hx=>?_⟩
 ·obtain⟨i,hi,rfl⟩:=anO hx
  have bM:i<SetTable.below l.toArray j:=by simp at hi;lia
  have:=k2 i bM
  have hl:i<l.length:=by lia
  simpa [apW,hl] using this
 ·obtain⟨i,hi,rfl⟩:=anO hx
  have bM:SetTable.below l.toArray j+i<l.length:=by simp at hi;lia
  have:=k3 (SetTable.below l.toArray j+i) (by lia) (by simpa using bM)
  simpa [apW,bM] using this
theorem below_at {l:List Nat} (h:lh l) {i:Nat} {j:Nat} (hi:l[i]?=some j):SetTable.below l.toArray j=i:=by
 have hb:=wy h j
 dsimp only at hb
 generalize SetTable.below l.toArray j=r at hb
 obtain⟨hr,h1,h2⟩:=hb
 obtain⟨wz,gx⟩:=alj.mp hi
 rcases arM r i with ba|rfl|bA
 ·exfalso
  have:=h2 l[r] (apI.mpr ⟨0,by lia,by simp⟩)
  have:=anA.mp h r i (by lia) wz ba
  lia
 ·rfl
 ·exfalso
  have:=h1 l[i] (apJ.mpr ⟨i,by lia,rfl⟩)
  lia
theorem Xr {l:List Nat} (h:lh l) {i:Nat} {j:Nat} (hi:l[i]?=some j):SetTable.below l.toArray (j+1)=i+1:=by
 have hb:=wy h (j+1)
 dsimp only at hb
 generalize SetTable.below l.toArray (j+1)=r at hb
 obtain⟨hr,h1,h2⟩:=hb
 obtain⟨wz,gx⟩:=alj.mp hi
 rcases arM r (i+1) with ba|rfl|bA
 ·exfalso
  have akR:r<=i:=by lia
  have h3:=h2 l[i] (apI.mpr ⟨i-r,by lia,by congr 1;lia⟩)
  lia
 ·rfl
 ·exfalso
  have h3:=h1 l[i+1] (apJ.mpr ⟨i+1,by lia,rfl⟩)
  have:=anA.mp h i (i+1) wz (by lia) (by lia)
  lia
noncomputable def lD (m:Nat) (h:Int) (occ:List Nat) (s:Nat):Prop:=∃ l r,road m h=l++s::r/\s∉l/\∀ q∈l,q∈occ
theorem lD.mono {m:Nat} {h:Int} {occ NN:List Nat} {s:Nat} (k:∀ q∈occ,q∈NN):lD m h occ s->lD m h NN s
 | ⟨l,r,e,n,a⟩=>⟨l,r,e,n,fun q hq=>k q (a q hq)⟩
theorem NO:∀ (n:Nat) (l:List Nat),(∀ j,j<n->j∈l)->n<=l.length
 | 0,_,_=>alv _
 | n+1,l,h=>by
  have:=NO n (l.erase n) fun j hj=>(aq2 (by lia)).mpr (h j (by lia))
  rw[ap0 (h n (by lia))] at this
  have:=aqr (h n (by lia))
  lia
theorem Xs {m:Nat} (hm:wx m) (h:Int) {occ:List Nat} (hn:occ.length<=m):∃ s,lD m h occ s/\s∉occ/\s<=m:=by
 have hex:∃ x∈road m h,x∉occ:=by
  refine aoi fun hc=>?_
  have all:∀ j,j<=m->j∈occ:=fun j hj=>aoi fun Xt=>hc ⟨j,Xk hm h hj,Xt⟩
  have:=NO (m+1) occ fun j hj=>all j (by lia)
  lia
 obtain⟨a,x,b,e,px,k⟩:=NJ (fun x=>x∉occ) (road m h) hex
 exact⟨x,⟨a,b,e,fun hx=>k x hx px,fun q hq=>aoi (k q hq)⟩,px,Xm (by rw[e];simp)⟩
structure Tok {β:Type} (t:aoa) (L:List (Nat × Int × β)):Prop where
 pl:t.place=(L.map (·.1)).toArray
 du:t.dummies = #[]
 ri:lh (L.map (·.1))
 le:∀ e∈L,e.1<=t.mask
 om:wx t.mask
 rm:L.length<=t.mask
 ro:∀ e∈L,lD t.mask e.2.1 (L.map (·.1)) e.1
section
variable {β:Type} {t:aoa} {L:List (Nat × Int × β)}
theorem Tok.live (k:Tok t L) {i q:Nat} (h:(L.map (·.1))[i]?=some q):t.slot q = .live i:=by
 unfold as3
 rw[k.pl,below_at k.ri h]
 simp[h] at h ⊢
theorem Tok.empty (k:Tok t L) {q:Nat} (h:q∉L.map (·.1)):t.slot q = .empty:=by
 unfold as3
 have h1:((t.place[SetTable.below t.place q]? == some q))=false:=by
  rw[k.pl]
  cases hb:((L.map (·.1)).toArray[SetTable.below (L.map (·.1)).toArray q]? == some q) with
  | false=>rfl
  | true =>
   have:=eq_of_beq hb
   rw[aqN] at this
   exact absurd (alx this) h
 have h2:ath t.dummies q=false:=by rw[k.du];rfl
 simp only[h1,h2,alw,if_false]
noncomputable def fZ (L:List (Nat × Int × β)) (p:Nat) (e:Nat × Int × β):List (Nat × Int × β):=L.take p++e::L.drop p
theorem sW (p:Nat) (e:Nat × Int × β):(fZ L p e).Perm (e::L):=by
 unfold fZ
 refine asa.trans ?_
 rw[amT]
theorem AJ {α:Type} (l:List α) (p:Nat) (x:α):anG l.toArray p x=(l.take p++x::l.drop p).toArray:=by
 unfold anG
 apply Array.ext'
 simp[Array.toList_extract,List.extract]
 exact aqo (by simp)
theorem Tok.put (k:Tok t L) {j:Nat} {h:Int} {x:β} (hj:j∉L.map (·.1)) (hm:j<=t.mask) (ho:lD t.mask h (L.map (·.1)) j) (hs:L.length<t.mask) :
 ∃ t' p,t.put j=(t',p)/\Tok t' (fZ L p (j,h,x))/\anG (L.map (·.2)).toArray p (h,x)=((fZ L p (j,h,x)).map (·.2)).toArray /\
  t'.mask=t.mask/\t'.led=t.led/\t'.plain=t.plain/\t'.fill=L.length+1:=by
 have hb:=wy k.ri j
 dsimp only at hb
 obtain⟨h0,h1,h2⟩:=hb
 have hd:ath t.dummies j=false:=by rw[k.du];rfl
 generalize hp:SetTable.below (L.map (·.1)).toArray j=p at h0 h1 h2
 have e1:(fZ L p (j,h,x)).map (·.1)=(L.map (·.1)).take p++j::(L.map (·.1)).drop p:=by simp[fZ]
 have mem:∀ q∈L.map (·.1),q∈(fZ L p (j,h,x)).map (·.1):=fun q hq=>((sW p (j,h,x)).map (·.1)).mem_iff.mpr (alT _ hq)
 refine⟨{ t with place:=anG (L.map (·.1)).toArray p j },p,by unfold SetTable.put;simp only[k.pl,hp,hd,alw,if_false],?_,?_,rfl,rfl,rfl,?_⟩
 ·refine⟨?_,k.du,?_,fun e he=>?_,k.om,?_,fun e he=>?_⟩
  ·show anG (L.map (·.1)).toArray p j=_
   rw[AJ,e1]
  ·rw[e1]
   have hr:=k.ri
   unfold lh at hr ⊢
   rw[<- amT p (L.map (·.1)),ao8] at hr
   refine ao8.mpr ⟨hr.1,ana.mpr ⟨fun y hy=>?_,hr.2.1⟩,fun a ha b hb=>?_⟩
   ·have:=h2 y hy
    have:y≠j:=fun e=>hj (e ▸ List.mem_of_mem_drop hy)
    lia
   ·rcases alk.mp hb with rfl|hb
    ·exact h1 a ha
    ·exact hr.2.2 a ha b hb
  ·rcases alk.mp ((sW p (j,h,x)).mem_iff.mp he) with rfl|he
   ·exact hm
   ·exact k.le e he
  ·rw[(sW p (j,h,x)).length_eq];exact hs
  ·rcases alk.mp ((sW p (j,h,x)).mem_iff.mp he) with rfl|he
   ·exact ho.mono mem
   ·exact (k.ro e he).mono mem
 ·rw[AJ];simp[fZ]
 ·show (anG _ _ _).size+t.dummies.size=_
  rw[AJ,k.du]
  simp
  simp at h0
  lia
end
end j8
namespace Gz
open PySem PySem.Spec PyProof.Rows L2
theorem NP:Manifest.owners.lookup (String.ofList ['r','o','t','a','r','e','t','i','_','t','e','s'].reverse)=some Manifest.sig_set_iterator:=by kernel_rfl
theorem oV:Slot "set_iterator" "__next__" "set_iterator.__next__" :=
 .of (owner := "set_iterator") (n := "__next__") (by rw[apk,an3];kernel_rfl) (by decide +kernel) (by decide +kernel) (by decide +kernel)
  (by first|exact .inl (by decide +kernel)|exact .inr (by decide +kernel)) (by rw[aq7];kernel_rfl)
theorem NQ:asZ table "set_iterator.__next__" = some an0.«set_iterator.__next__»:=entryFor_of_tree (by kernel_rfl)
theorem NR (a:ak3):aq3 "set_iterator.__next__" ⟨[a],[]⟩:=by
 unfold aq3;rw[signature?_of (id := "set_iterator.__next__") (n:=['_','_','t','x','e','n','_','_']) (o:=['r','o','t','a','r','e','t','i','_','t','e','s']) (by kernel_rfl) NP];kernel_rfl
theorem Xu:asZ table "set.__iter__" = some an0.«frozenset.__iter__» :=
 entryFor_alias (id' := "frozenset.__iter__") (by kernel_rfl) (by first|rfl|decide +kernel) (by decide +kernel) (by kernel_rfl)
section
variable {prog:alr} {w:alS} {A:alY} {E:ak3->ak7->Prop} {s:ak7} {d I:ala} {ep:Nat} {t:aoa}
theorem Xv {Q:Bool->ak7->Prop} (hT:s.TypeIs (.ref d) "set") (q:Q false s):alu (model prog w) A (an4 (.ref d)) Q E s:=by
 unfold an4
 refine ak1 (apd hT PySem.F.slot_set_len.lookup ?_)
 generalize hid:("set.__len__" : String)=Xw
 wp_delta
 rw[show splitId Xw=some ("set","__len__") from by subst hid;decide +kernel]
 subst hid
 refine ak1 (aon (T := "set") (b:=true) hT (by rw[aq7];kernel_rfl) ?_)
 refine aoz (fun eK=>absurd eK (by decide)) (fun _=>?_)
 refine aoz (fun _=>?_) (fun eK=>absurd (by decide +kernel) eK)
 refine ak1 (wpAny_typeOf hT ?_)
 exact ak6 q
end
section
variable {X:Cx}
theorem Xx:amb "set" = some (.type "set"):=by decide +kernel
end
end Gz
namespace Gz
open PySem PySem.Spec PyProof.Rows L2 j8
section
variable {prog:alr} {w:alS} {A:alY} {E:ak3->ak7->Prop} {s:ak7}
noncomputable abbrev tK (prog:alr) (w:alS):HeapKind prog w (List Int):=apa (aoH prog w)
noncomputable def Ld (prog:alr) (w:alS) (k:List Int):Int:=(tK prog w).hash k
theorem fits_of {β:Type} {t:aoa} {L:List (Nat × Int × β)} (k:Tok t L):t.fits (L.map (·.2)).toArray.size=true:=by
 unfold SetTable.fits SetTable.fill
 rw[k.pl,k.du]
 have:=k.rm
 simp
 lia
theorem Xy {h:amH} {S:ala} {o:Obj} {es es':Array (Int × ak3)} {ep:Nat} {t t':aoa} (g1:h.get? S=some o) (g3:o.data = .set es ep t) :
 (h.update S (asS es' t')).get? S=some { o with data:=.set es' (ep+1) t' }:=by
 have:=alO (asS es' t') g1 (by rw[putSet_of es' t' g3];rfl)
 rw[putSet_of es' t' g3] at this
 exact this
theorem NS {α β:Type} {f:α->β}:∀ {xs:List α} {l:List β},l.Perm (xs.map f)->∃ ys:List α,l=ys.map f/\ys.Perm xs:=by
 intro xs l h
 generalize hz:xs.map f=z at h
 induction h generalizing xs with
 | nil=>exact⟨[],rfl,by cases xs with|nil=>exact .nil|cons=>cases hz⟩
 | @cons a l1 l2 p ih =>
  cases xs with
  | nil=>cases hz
  | cons x xs =>
   obtain⟨e1,e2⟩:=List.cons.inj hz
   obtain⟨ys,rfl,q⟩:=ih e2
   exact⟨x::ys,by rw[<- e1];rfl,q.cons x⟩
 | swap a b l =>
  cases xs with
  | nil=>cases hz
  | cons x xs =>
   cases xs with
   | nil=>simp at hz
   | cons y xs =>
    simp only[alH,apj] at hz
    obtain⟨e1,e2,e3⟩:=hz
    exact⟨y::x::xs,by simp[e1,e2,e3],.swap x y xs⟩
 | trans p q Xz XA =>
  obtain⟨ys,e,r⟩:=XA hz
  obtain⟨zs,e',r'⟩:=Xz e.symm
  exact⟨zs,e',r'.trans r⟩
end
end Gz
namespace Gz
open PySem PySem.Spec PyProof.Rows L2 j8
noncomputable def lE (w:alS):Bool:=!(w.params.followText "set-order")
section
variable {prog:alr} {w:alS} {A:alY} {R:apQ->ak7->Prop} {I:ala} {fp wr:List ala} {G:Array ark->Array ark->Prop} {n:Nat} {P:Nat->ak3->Prop} {St:Nat->ak7->Prop}
end
section
variable {prog:alr} {w:alS} {A:alY} {E:ak3->ak7->Prop} {s:ak7}
noncomputable abbrev gZ (w:alS):Obj:={ cls:=.type "set",dict:=none,data:=.set #[] 0 (.fresh 0 0 (lE w)) }
theorem XB (a:ak3) {Q₁:ak3->ak7->Prop} (h:Q₁ (.ref s.heap.objs.size) { s with heap:=s.heap.push (gZ w) }) :
 anR (model prog w) A (.call (.builtin "set.__new__") ⟨[.type "set",a],[]⟩) (wants Q₁ E) s:=by
 refine asE (show alu _ A.in1 (do ar0 "set.__new__" ⟨[.type "set",a],[]⟩;again (.builtin "set.__new__" ⟨[.type "set",a],[]⟩)) _ _ s from ?_)
 refine ak1 (apf (PySem.F.newCall_set_1 a) (ak6 ⟨aml aqO _,alZ PySem.F.entry_set_new ?_⟩));rw[alL aqO _]
 unfold an0.«set.__new__» Builtin.Frozenset.newClass;have wA:=PySem.sub_set_self
 obtain⟨hp,g,d,tk,os⟩:=s
 dsimp only;wp_walk
 refine aoo (ak6 ?_);dsimp only;simp only[newObj]
 exact ak1 (wpAny_alloc (ak6 (ak6 h)))
end
end Gz
namespace Gz
open PySem PySem.Spec PyProof.Rows L2 j8
theorem NT:Slot "set_iterator" "__iter__" "set_iterator.__iter__" :=
 .of (owner := "set_iterator") (n := "__iter__") (by rw[apk,an3];kernel_rfl) (by decide +kernel) (by decide +kernel) (by decide +kernel)
  (by first|exact .inl (by decide +kernel)|exact .inr (by decide +kernel)) (by rw[aq7];kernel_rfl)
theorem XD:asZ table "set_iterator.__iter__" = some an0.«dict_keyiterator.__iter__» :=
 entryFor_alias (id' := "dict_keyiterator.__iter__") (by kernel_rfl) (by first|rfl|decide +kernel) (by decide +kernel) (by kernel_rfl)
theorem XE (a:ak3):aq3 "set_iterator.__iter__" ⟨[a],[]⟩:=by
 unfold aq3;rw[signature?_of (id := "set_iterator.__iter__") (n:=['_','_','r','e','t','i','_','_']) (o:=['r','o','t','a','r','e','t','i','_','t','e','s']) (by kernel_rfl) NP];kernel_rfl
theorem NU {α:Type} (f:Nat->Nat):∀ (n k:Nat) (left:List α) (out:Array α),left.length=n->(pickOrder.go f n k left out).toList.Perm (out.toList++left)
 | 0,k,left,out,h=>by
  obtain rfl:left=[]:=amY.mp h
  unfold pickOrder.go;simp
 | n+1,k,left,out,h=>by
  have hl:f k % left.length<left.length:=aqT _ (by lia)
  unfold pickOrder.go
  rw[ak9 hl]
  refine (NU f n (k+1) _ _ (by rw[List.length_eraseIdx_of_lt hl];lia)).trans ?_
  rw[arN,aoO]
  refine List.Perm.append_left _ ?_
  have:=asa (a:=left[f k % left.length]) (l₁:=left.take (f k % left.length)) (l₂:=left.drop (f k % left.length+1))
  rw[List.eraseIdx_eq_take_drop_succ]
  refine .trans ?_ (.of_eq (amT (f k % left.length) left))
  rw[amt hl]
  exact this.symm
theorem XF {α:Type} (f:Nat->Nat) (xs:Array α):(ati f xs).toList.Perm xs.toList:=by
 unfold ati
 simpa using NU f xs.size 0 xs.toList #[] (by simp)
section
variable {prog:alr} {w:alS} {A:alY} {E:ak3->ak7->Prop} {s:ak7} {S I:ala} {o:Obj} {ep:Nat} {t:aoa} {L:List (Nat × Int × ak3)}
noncomputable def g8 (w:alS) (S:ala) (ep:Nat) (es:Array (Int × ak3)):Array (Int × ak3):=if w.params.followText "set-order" then ati (w.params.setOrder S ep) es else es
theorem AK (w:alS) (S:ala) (ep:Nat) (es:Array (Int × ak3)):(g8 w S ep es).toList.Perm es.toList:=by
 unfold g8
 split
 ·exact XF _ _
 ·exact .refl _
structure oW (w:alS) (S:ala) (o:Obj) (ep:Nat) (t:aoa) (L:List (Nat × Int × ak3)):Prop where
 cls:o.cls = .type "set"
 dat:o.data = .set (L.map (·.2)).toArray ep t
 tok:Tok t L
 led:t.led=lE w
 pln:t.plain=true
theorem XG {Q:Bool->ak7->Prop} (x:oW w S o ep t L) (h:s.heap.get? S=some o) (q:Q false s):alu (model prog w) A (setDrawn S) Q E s:=by
 unfold setDrawn asT
 refine ak1 (aoR h x.dat (fits_of x.tok) ?_)
 dsimp only
 refine ak1 (ak1 (aoo (ak6 (ak6 ?_))))
 refine cast (congrArg (fun b=>Q b s) ?_) q
 symm
 rw[Bool.and_eq_false_iff]
 right
 show (!t.plain && _)=false
 rw[x.pln];rfl
noncomputable abbrev AL (S:ala) (n ep:Nat) (sl i:Int):Obj:={ cls:=.type "set_iterator",data:=.fields #[aoB sl,aoB i,.ref S,aoB n,aoB ep] }
theorem XH {Q:ak3->ak7->Prop} (x:oW w S o ep t L) (h:s.heap.get? S=some o) (hQ:Q (.ref s.heap.objs.size) { s with heap:=s.heap.push (AL S L.length ep 0 0) }):alu (model prog w) A (as8 (.ref S)) Q E s:=by
 have hT:s.TypeIs (.ref S) "set" := ⟨o,h,x.cls⟩
 refine apY hT asF (amr asF hT Xu ?_ (F.args_set_iter_1 _))
 unfold an0.«frozenset.__iter__»
 refine ak1 (m:=Builtin.Frozenset.slot0 _ _) (ak6 ?_)
 refine ak1 (m:=Builtin.Frozenset.sizeOf _) (ak1 (apl h x.dat (fits_of x.tok) (ak6 ?_)))
 refine ak1 (XG x h ?_)
 simp only[alw,if_false]
 refine ak1 (ak6 ?_)
 refine ak1 (wpAny_setEpoch_of h x.dat (fits_of x.tok) ?_)
 refine ak1 (amd (ak6 ⟨_,rfl,"set_iterator",_,⟨_,aln _ rfl,rfl⟩,oV.lookup,?_⟩))
 refine cast (congrArg (fun b=>Q _ { s with heap:=s.heap.push b }) ?_) hQ
 simp[AL]
theorem NV {sl i:Nat} {Q:Option (ak3 × Nat)->ak7->Prop} (x:oW w S o ep t L) (h:s.heap.get? S=some o) (hb:w.params.followText "set-order" = false->SetTable.below t.place sl=i)
 (q:∀ eV,(w.params.followText "set-order" = false->i<L.length->SetTable.below t.place eV=i+1)->Q (((g8 w S ep (L.map (·.2)).toArray)[i]?).map fun e=>(e.2,eV)) s):alu (model prog w) A (ato S sl i ep) Q E s:=by
 unfold ato asT
 refine ak1 (aoR h x.dat (fits_of x.tok) ?_)
 dsimp only
 refine ak1 (ak1 (aoo (ak6 ?_)))
 unfold g8 at q
 cases hf:w.params.followText "set-order" with
 | true =>
  simp only[hf,if_true] at q
  rw[if_pos (show (model prog w).w.params.followText "set-order" = true from hf),if_neg (by simp)]
  unfold setWalk asT
  refine ak1 (ak1 (aoR h x.dat (fits_of x.tok) ?_))
  refine ak1 (ak1 (aoo (ak6 ?_)))
  rw[if_pos (show (model prog w).w.params.followText "set-order" = true from hf)]
  exact ak1 (aoo (ak6 (ak6 (q sl (fun hz=>nomatch hz)))))
 | false =>
  simp only[hf,alw,if_false] at q
  rw[if_neg (show ¬ (model prog w).w.params.followText "set-order" = true from by rw[show (model prog w).w.params.followText "set-order" = false from hf];decide)]
  refine aoz (fun z=>absurd (show (!t.plain && _)=true from z) (by rw[x.pln];simp)) (fun _=>?_)
  have hl:t.led=true:=by rw[x.led];unfold lE;rw[hf];rfl
  refine ak1 ?_
  show alu _ _ (if (!t.led && !(L.map (·.2)).toArray.isEmpty)=true then _ else pure _) _ _ _
  rw[if_neg (by rw[hl];simp)]
  refine ak6 (ak6 ?_)
  rw[hb hf]
  by_cases hi:i<L.length
  ·have e1:(L.map (·.2)).toArray[i]?=some L[i].2:=by simp[hi]
   have e2:t.place[i]?=some L[i].1:=by rw[x.tok.pl];simp[hi]
   have:=q (L[i].1+1) fun _ _=>by rw[x.tok.pl];exact Xr x.tok.ri (by simp[hi])
   rw[e1] at this ⊢
   rw[e2]
   exact this
  ·have e1:(L.map (·.2)).toArray[i]?=none:=by simp;lia
   have:=q 0 fun _ hz=>absurd hz hi
   rw[e1] at this ⊢
   exact this
theorem XI (hh:A.handled=none) (x:oW w S o ep t L) (bK:S≠I):Walks prog w A I [I,S] [I] L.length (fun i v=>((g8 w S ep (L.map (·.2)).toArray)[i]?).map (·.2)=some v)
 (fun i h=>h.get? S=some o/\∃ sl:Nat,h.get? I=some (AL S L.length ep sl i)/\(w.params.followText "set-order" = false->SetTable.below t.place sl=i)) where
 sub:=fun b hb=>by simp at hb;simp[hb]
 frame:=fun _ _ _ st hk=>⟨hk S (by simp) _ st.1,let ⟨sl,a,b⟩:=st.2;⟨sl,hk I (by simp) _ a,b⟩⟩
 item:=fun i s Q E hi st hQ=>by
  obtain⟨h1,sl,hI,hb⟩:=st
  have hT:s.TypeIs (.ref I) "set_iterator" := ⟨_,hI,rfl⟩
  have hlen:(g8 w S ep (L.map (·.2)).toArray).size=L.length:=by
   have:=(AK w S ep (L.map (·.2)).toArray).length_eq
   simpa using this
  have bM:i<(g8 w S ep (L.map (·.2)).toArray).size:=by lia
  unfold anu
  refine ak1 (aox (amC (name:=anf "__next__") hT oV
   (amr oV hT NQ ?_ (NR _))))
  unfold an0.«set_iterator.__next__»
  refine ak1 (ak6 (ak1 (aog hI rfl ?_)))
  show alu _ _ (setEntries S >>= _) _ _ _
  refine ak1 (apl h1 x.dat (fits_of x.tok) ?_)
  refine aoz (fun z=>absurd z (by simp)) (fun _=>?_)
  show alu _ _ (ato S (aqP (sl:Int)) (aqP (i:Int)) (aqP (ep:Int)) >>= _) _ _ _
  rw[al1,al1,al1]
  refine ak1 (NV x h1 hb fun eV jd=>?_)
  rw[alV bM]
  dsimp only [Option.map_some]
  refine ak1 (aoT hI rfl (by simp) ?_)
  have NW:=alO (an9 (·.setIfInBounds 0 (aoB (eV:Int)))) hI rfl
  refine ak1 (aoT NW rfl (by simp[an9]) ?_)
  have XJ:=alO (an9 (·.setIfInBounds 1 (aoB ((i:Int)+1)))) NW rfl
  have NX:∀ (b:ala) (u:Obj),b≠I->s.heap.get? b=some u->((s.heap.update I (an9 (·.setIfInBounds 0 (aoB (eV:Int))))).update I (an9 (·.setIfInBounds 1 (aoB ((i:Int)+1))))).get? b=some u:=fun b u hb e =>
   (alg _ _ (al5 hb)).trans ((alg _ _ (al5 hb)).trans e)
  refine ak6 ⟨_,rfl,ak6 (hQ _ _ s.toks (by rw[alV bM];rfl) ⟨NX S o bK h1,eV,XJ,fun hf=>jd hf hi⟩ fun b u hb e=>NX b u (by simpa using hb) e)⟩
 done:=fun s Q E st hQ=>by
  obtain⟨h1,sl,hI,hb⟩:=st
  have hT:s.TypeIs (.ref I) "set_iterator" := ⟨_,hI,rfl⟩
  have hlen:(g8 w S ep (L.map (·.2)).toArray).size=L.length:=by
   have:=(AK w S ep (L.map (·.2)).toArray).length_eq
   simpa using this
  unfold anu
  refine ak1 (aox (amC (name:=anf "__next__") hT oV
   (amr oV hT NQ ?_ (NR _))))
  unfold an0.«set_iterator.__next__»
  refine ak1 (ak6 (ak1 (aog hI rfl ?_)))
  show alu _ _ (setEntries S >>= _) _ _ _
  refine ak1 (apl h1 x.dat (fits_of x.tok) ?_)
  refine aoz (fun z=>absurd z (by simp)) (fun _=>?_)
  show alu _ _ (ato S (aqP (sl:Int)) (aqP (L.length:Int)) (aqP (ep:Int)) >>= _) _ _ _
  rw[al1,al1,al1]
  refine ak1 (NV x h1 hb fun eV jd=>?_)
  rw[anT (by lia)]
  show alu _ _ (ash (.ref I) 2 .none >>= _) _ _ s
  refine ak1 (aoT hI rfl (by simp) ?_);show alu _ _ (newExc (.type "StopIteration") [] >>= _) _ _ _
  refine ak1 ?_;simp only[newExc,as2]
  refine ak1 (amd ?_ (by size_fits));refine ak1 (m:=apG _ _) (apf (a:=Value.none) (by first|rfl|(simp only[apG];rfl)) ?_)
  refine amd ?_ (by size_fits);simp only[raiseNew]
  refine ak1 (wpAny_handled ?_);rw[show A.in1.handled=none from hh]
  refine ak1 (ak6 (wpAny_throw ?_));refine ak1 (aon (T := "StopIteration") (b:=true) ⟨_,aln _ rfl,rfl⟩ aq4 ?_)
  refine ak6 (hQ _ s.toks fun b u hb e=>(((amm ..).extBut.push _).push _) b u (by simpa using hb) e)
 self:=fun _ s _ _ st hQ=>by
  obtain⟨h1,sl,hI,hb⟩:=st
  have hT:s.TypeIs (.ref I) "set_iterator" := ⟨_,hI,rfl⟩
  refine apY hT NT (amr NT hT XD ?_ (XE _))
  show alu _ _ (ret (.ref I)) _ _ s
  exact ak6 ⟨_,rfl,"set_iterator",_,hT,oV.lookup,hQ⟩
theorem XM (x:oW w S o ep t L):aq5 prog w "set" S S L.length (fun i v=>((g8 w S ep (L.map (·.2)).toArray)[i]?).map (·.2)=some v) (fun h=>h.get? S=some o) where
 type:=fun _ h=>⟨o,h,x.cls⟩
 there:=fun _ h=>⟨alb h,alb h⟩
 keep:=fun _ _ h hk=>hk S (.inl rfl) o h
 notList:=by decide
 notTuple:=by decide
 hint:=fun _ _ _ _ h hq=>Xv ⟨o,h,x.cls⟩ hq
 iter:=fun _ _ hh h=>⟨_,_,(fun _ _ hq=>XH x h hq),XI hh x (alA (alb h)),
  ⟨ak5 _ h,0,aln _ rfl,fun _=>Nat.le_zero.mp (by
   have hb:=wy x.tok.ri 0
   dsimp only at hb
   rw[x.tok.pl]
   refine arY fun ba=>?_
   generalize SetTable.below (L.map (·.1)).toArray 0=r at hb ba
   cases hL:L.map (·.1) with
   | nil=>rw[hL] at hb;simp at hb;lia
   | cons a l =>
    have:=hb.2.1 a (by rw[hL];cases r with|zero=>lia|succ r=>simp)
    lia)⟩⟩
end
end Gz
namespace Gz
open PySem PySem.Spec PyProof.Rows L2 j8
section
variable {prog:alr} {w:alS} {A:alY} {E:ak3->ak7->Prop} {s:ak7}
noncomputable abbrev jv (m:Int × PySem.Tok):Int × ak3:=(apD m.1,.int m.1 m.2)
noncomputable def jw (h:amH) (S:ala) (M:List (Int × PySem.Tok)) (led:Bool):Prop :=
 ∃ o ep t L,h.get? S=some o/\o.cls = .type "set" /\ o.data = .set (L.map (·.2)).toArray ep t/\j8.Tok t L/\t.led=led/\t.plain=true/\L.length * 5<t.mask * 3/\L.map (·.2)=M.map jv
theorem XN {t:aoa} {L:List (Nat × Int × ak3)} (k:j8.Tok t L) (h:Int):∃ j,t.freeSlot h=some (j,false)/\j∉L.map (·.1)/\j<=t.mask/\lD t.mask h (L.map (·.1)) j:=by
 obtain⟨j,⟨l,r,e1,e2,e3⟩,hj,hm⟩:=Xs k.om h (occ:=L.map (·.1)) (by have:=k.rm;simp;lia)
 obtain⟨r',er⟩:=Xn t h
 rw[e1,aoO] at er
 have:=NM t (fun _=>h+1) h j (r++r') (k.empty hj) l _ _ er fun q hq=>by
  obtain⟨i',bM,i5⟩:=anO (e3 q hq)
  exact⟨i',k.live (alj.mpr ⟨bM,i5⟩),by lia⟩
 refine⟨j,?_,hj,hm,l,r,e1,e2,e3⟩
 unfold SetTable.freeSlot
 rw[show t.probe (fun _=>h+1) h (t.probeStart h)=some (.empty j none) from this]
 rfl
theorem XO (prog:alr) (w:alS) {M:List (Int × PySem.Tok)}:ElemsOf (aoH prog w) (M.map jv):=fun e he=>by
 obtain⟨m,_,rfl⟩:=alF.mp he
 exact⟨⟨m.1,by simp[aoH,aoE],rfl⟩,rfl⟩
theorem add_int {S:ala} {k:Int} {tt:PySem.Tok} {M:List (Int × PySem.Tok)} {led:Bool} {Q:Bool->ak7->Prop} (hS:jw s.heap S M led) (hlen:M.length<4)
 (h0:k∈M.map (·.1)->Q false s)
 (h1:k∉M.map (·.1)->∀ h' M',Heap.SameBut S s.heap h'->jw h' S M' led->M'.Perm ((k,tt)::M)->Q true { s with heap:=h' }) :
 alu (model prog w) A (setAddHashed S (.int k tt) (apD k)) Q E s:=by
 obtain⟨o,ep,t,L,g1,g2,g3,tk,g4,g5,g6,g7⟩:=hS
 have hlM:L.length=M.length:=by have:=congrArg List.length g7;simpa using this
 have sX:ElemsOf (aoH prog w) (L.map (·.2)).toArray.toList:=by rw[apm,g7];exact XO prog w
 unfold setAddHashed setAddHashedIn
 refine al6 (ak1 (aoR g1 g3 (fits_of tk) ?_))
 dsimp only
 rw[byScan_of (knd:=aoH prog w) rfl (by rw[alo,ak8];unfold scanBound;lia) sX]
 simp only[if_true]
 unfold setAddByScan
 refine ak1 (ak1 (an8 ?_))
 refine ak1 (wpAny_setScan_of (knd:=aoH prog w) (k:=k) (by simp[aoH,aoE]) g1 g3 (fits_of tk) sX ?_)
 rw[apm,g7]
 by_cases cH:k∈M.map (·.1)
 ·obtain⟨m,hm,hmk⟩:=alF.mp cH
  cases hf:as4 (fun e=>(aoH prog w).is k e.2) (M.map jv) with
  | none =>
   have:=apK.mp hf (jv m) (alF.mpr ⟨m,hm,rfl⟩)
   rw[<- hmk] at this
   simp[aoH,aoE] at this
  | some j =>
   dsimp only
   exact ak6 (ak6 (h0 cH))
 ·have hf:as4 (fun e=>(aoH prog w).is k e.2) (M.map jv)=none:=by
   refine apK.mpr fun e he=>?_
   obtain⟨m,hm,rfl⟩:=alF.mp he
   simp only[aoH,aoE]
   exact beq_eq_false_iff_ne.mpr fun z=>cH (alF.mpr ⟨m,hm,z⟩)
  rw[hf]
  dsimp only
  obtain⟨j,j0,j1,j2,j3⟩:=XN tk (apD k)
  obtain⟨t',p,p1,p2,p3,p4,p5,p6,p7⟩:=tk.put (x:=Value.int k tt) j1 j2 j3 (by lia)
  have AM:=sW (L:=L) p (j,apD k,Value.int k tt)
  have XQ:layNew t (M.map jv).toArray (apD k) (.int k tt)=(((fZ L p (j,apD k,Value.int k tt)).map (·.2)).toArray,t',false,false):=by
   rw[<- g7]
   unfold layNew
   rw[j0]
   dsimp only
   rw[p1,p3]
   have:=fits_of p2
   unfold SetTable.orStandIn
   rw[this]
   rfl
  rw[XQ]
  dsimp only
  refine ak1 ?_
  show alu _ _ (pure ()) _ _ _
  refine ak6 ?_
  rw[p6,g5]
  simp only[if_true]
  refine ak1 ?_
  rw[hashByValue_scannable 8 (show (Value.int k tt).scannable=true from rfl)]
  refine ak6 ?_
  rw[show plainKind (Value.int k tt)=true from rfl]
  simp only[if_true]
  have hsz:((fZ L p (j,apD k,Value.int k tt)).map (·.2)).toArray.size<=alI:=by
   have:=AM.length_eq
   simp at this ⊢
   rw[this]
   exact alp (show _<=64 by lia) (by decide)
  refine ak1 (wpAny_storeSet_of g1 g3 ?_ hsz)
  have gS:=Xy (es':=((fZ L p (j,apD k,Value.int k tt)).map (·.2)).toArray) (t':=t') g1 g3
  have XR:=amm s.heap S (asS ((fZ L p (j,apD k,Value.int k tt)).map (·.2)).toArray t')
  have cj:((fZ L p (j,apD k,Value.int k tt)).map (·.2)).Perm (((k,tt)::M).map jv):=by
   refine (AM.map (·.2)).trans ?_
   simp only[alH,g7]
   exact .refl _
  have m7:7<=t.mask:=by rcases tk.om with e|e|e<;>lia
  have XS:t'.tooFull=false:=by
   unfold SetTable.tooFull
   rw[p7,p4]
   simp
   lia
  rw[XS]
  simp only[asJ,alw,if_false]
  obtain⟨M',e1,e2⟩:=NS cj
  refine ak6 (ak6 (h1 cH _ M' XR ⟨_,_,t',_,gS,g2,rfl,p2,p5.trans g4,p6.trans g5,?_,e1⟩ e2))
  rw[AM.length_eq,p4]
  simp
  lia
noncomputable def sY (key:Nat->Int) (i:Nat) (M:List (Int × PySem.Tok)):Prop :=
 (M.map (·.1)).Nodup/\(∀ m∈M,∃ j,j<i/\m.1=key j)/\(∀ j,j<i->key j∈M.map (·.1))/\M.length<=i
theorem XT {h:amH} {S:ala} (e:h.get? S=some (gZ w)):jw h S [] (lE w) :=
 ⟨_,0,_,([]:List (Nat × Int × ak3)),e,rfl,rfl,⟨rfl,rfl,List.Pairwise.nil,(fun _ hx=>nomatch hx),als rfl,alv _,(fun _ hx=>nomatch hx)⟩,rfl,rfl,(show 0 * 5<7 * 3 by decide),rfl⟩
theorem XU {R:apQ->ak7->Prop} {I:ala} {fp wr:List ala} {G:Array ark->Array ark->Prop} {n:Nat} {P:Nat->ak3->Prop} {St:Nat->ak7->Prop} (W:WalksS prog w A.in1 I fp wr G n P St) (S:ala) (iA:S∉fp) {key:Nat->Int} {led:Bool} (XW:∀ i v,P i v->∃ tt,v = .int (key i) tt) (hn:n<=3) :
 ∀ (k i:Nat) (s:ak7) (M:List (Int × PySem.Tok)),n-i=k->i<=n->St i s->jw s.heap S M led->sY key i M ->
  (∀ s' M',Moved (S::wr) G s s'->jw s'.heap S M' led->sY key n M'->R (.ok (.ret .none)) s') ->
  anR (model prog w) A (.builtin "set.update.loop" ⟨[.ref S,.ref I],[]⟩) R s:=by
 have NY:S∉wr:=fun h=>iA (W.sub _ h)
 have wA:∀ b∈wr,b∈S::wr:=fun b hb=>alT _ hb
 intro k
 induction k with
 | zero =>
  intro i s M hk hi cM hS hM hR
  obtain rfl:i=n:=by lia
  refine alZ aoj ?_;rw[alL ang _]
  refine show alu _ A.in1 (anu (.ref I) >>= _) _ _ s from ak1 (W.done s _ _ cM fun s' hm=>?_)
  exact show alu _ A.in1 (ret Value.none) _ _ s' from ak6 (hR s' M (hm.mono wA) (let ⟨o,ep,t,L,ho,rest⟩:=hS;⟨o,ep,t,L,hm.heap S _ NY ho,rest⟩) hM)
 | succ k ih =>
  intro i s M hk hi cM hS hM hR
  have ba:i<n:=by lia
  refine alZ aoj ?_;rw[alL ang _]
  refine show alu _ A.in1 (anu (.ref I) >>= _) _ _ s from ak1 (W.item i s _ _ ba cM fun v s' hP XX hm=>?_)
  obtain⟨tt,rfl⟩:=XW i v hP
  have jx:jw s'.heap S M led:=let ⟨o,ep,t,L,ho,rest⟩:=hS;⟨o,ep,t,L,hm.heap S _ NY ho,rest⟩
  refine show alu _ A.in1 (holding [Value.int (key i) tt] (setAdd S (.int (key i) tt)) >>= _) _ _ s' from ak1 (al6 ?_)
  unfold setAdd
  refine al6 (ak1 ((aoH prog w).pyHash (k:=key i) (by simp[aoH,aoE]) ?_))
  have go:∀ (h':amH) (M':List (Int × PySem.Tok)),Heap.SameBut S s'.heap h'->jw h' S M' led->sY key (i+1) M' ->
   alu (model prog w) A.in1 (again (.builtin "set.update.loop" ⟨[.ref S,.ref I],[]⟩)) (fun fin s'=>match fin with|.done f=>R (.ok f) s'|.again c'=>c'.quiet=true/\anR (model prog w) A c' R s') (fun e s'=>R (.error e) s') { s' with heap:=h',toks:=s'.toks+1 }:=by
   intro h' M' eL AN XY
   refine ak6 ⟨aml ang _,ih (i+1) _ M' (by lia) ba (W.frame _ s' _ _ XX (aoK _) fun b hb o e=>?_) AN XY fun i6 XZ X0 X2 X3=>?_⟩
   ·rw[eL.2 b (fun h:b=S=>iA (by rw[<- h];exact hb))];exact e
   ·refine hR i6 XZ (Moved.trans W.gtrans ((hm.mono wA).then_heap (aoK _) fun b o hb e=>?_) X0) X2 X3
    rw[eL.2 b (fun h:b=S=>hb (by rw[h];exact am8))];exact e
  refine add_int (s:={ s' with toks:=s'.toks+1 }) (M:=M) jx (by have:=hM.2.2.2;lia) (fun cH=>?_) (fun cH h' M' eL AN cj=>?_)
  ·refine go s'.heap M (Heap.SameBut.refl S s'.heap) jx ⟨hM.1,fun m hm=>?_,fun j hj=>?_,by have:=hM.2.2.2;lia⟩
   ·obtain⟨j,hj,e⟩:=hM.2.1 m hm
    exact⟨j,by lia,e⟩
   ·by_cases e:j=i
    ·rw[e];exact cH
    ·exact hM.2.2.1 j (by lia)
  ·refine go h' M' eL AN ⟨((cj.map (·.1)).nodup_iff).mpr (amo.mpr ⟨cH,hM.1⟩),fun m hm=>?_,fun j hj=>?_,by have:=cj.length_eq;have:=hM.2.2.2;simp at *;lia⟩
   ·rcases alk.mp (cj.mem_iff.mp hm) with rfl|hm
    ·exact⟨i,by lia,rfl⟩
    ·obtain⟨j,hj,e⟩:=hM.2.1 m hm
     exact⟨j,by lia,e⟩
   ·refine ((cj.map (·.1)).mem_iff).mpr ?_
    by_cases e:j=i
    ·rw[e];exact am8
    ·exact alT _ (hM.2.2.1 j (by lia))
theorem X4 {l:ala} {items:Array ak3} {Q:ak3->ak7->Prop} {key:Nat->Int} (hh:A.handled=none) (hl:s.heap.IsList l items) (hn:items.size<=3)
 (hit:∀ (i:Nat) (v:ak3),items[i]?=some v->∃ tt,v = .int (key i) tt)
 (h:∀ (h':amH) (tk:Nat) (M:List (Int × PySem.Tok)),jw h' s.heap.objs.size M (lE w)->sY key items.size M->(∀ b o,b<s.heap.objs.size->s.heap.get? b=some o->h'.get? b=some o)->Q (.ref s.heap.objs.size) { s with heap:=h',toks:=tk }) :
 alu (model prog w) A (call (.type "set") [.ref l]) Q E s:=by
 obtain⟨c,tl,hmro⟩:=PySem.F.called_set.mro;have akS:=PySem.F.called_set.made;have wA:=PySem.F.called_set.sub
 refine arE (asE (show alu _ _ (callAny (.type "set") _) _ _ _ from ak6 ⟨Code.quiet_builtin _ (by decide +kernel),alZ PySem.F.entry_type_call ?_⟩))
 rw[Around.under_plain (weight_type_call_type "set" [.ref l] []) rfl];have h1:=PySem.F.called_set.notType;have h2:=PySem.F.called_set.canCreate
 have hct:=PySem.F.typeCall_set_1 (.ref l);repeat (any_goals (first|assumption|wp_step))
 refine aoX (XB (.ref l) (E:=E) (Q₁:=fun obj s₁=>obj = .ref s.heap.objs.size/\s₁ = { s with heap:=s.heap.push (gZ w) }) ⟨rfl,rfl⟩) fun r s₁ hr=>?_
 cases r with
 | error e=>exact hr
 | ok fl =>
  cases fl with
  | ret obj =>
   obtain⟨rfl,rfl⟩:=hr
   have gS:(s.heap.push (gZ w)).get? s.heap.objs.size=some (gZ w):=aln _ rfl
   have hT:Shared.TypeIs { s with heap:=s.heap.push (gZ w) } (.ref s.heap.objs.size) "set" := ⟨_,gS,rfl⟩
   have oX:=PySem.F.called_set.init.lookup;have NZ:=PySem.F.called_set.init.bind (.ref s.heap.objs.size)
   repeat (any_goals (first|assumption|wp_step))
   refine aoX (aqV (R:=wants (fun r s₂=>r = .none/\∃ h' tk M,s₂ = { s with heap:=h',toks:=tk }/\jw h' s.heap.objs.size M (lE w)/\sY key items.size M /\
    (∀ b o,b<s.heap.objs.size->s.heap.get? b=some o->h'.get? b=some o)) E) PySem.F.called_set.init.plain PySem.F.entry_set_init (check_set_init_1 hT ?_)) fun r₂ s₂ AO=>?_
   ·have lt:l<s.heap.objs.size:=let ⟨_,e,_⟩:=hl;alb e
    obtain⟨ol,hol,bN,nl,hdl⟩:=id hl
    obtain⟨ocls,odict,odata,oslots⟩:=ol
    obtain rfl:ocls = .type "list" := bN
    obtain rfl:odata = .seq items nl:=hdl
    have X5:(s.heap.push (gZ w)).get? l=some { cls:=.type "list",dict:=odict,data:=.seq items nl,slots:=oslots }:=ak5 _ hol
    have akT:=PySem.F.sub_list_set;have akU:=PySem.F.sub_list_frozenset;have bK:(aoG "list" == aoG "dict")=false:=by decide
    have oY:(s.heap.push (gZ w)).IsList l items:=⟨_,X5,rfl,nl,rfl⟩
    unfold an0.«set.__init__» noKeywords Builtin.Frozenset.updateFrom
    generalize X6:as8=PI;wp_walk;subst X6
    refine arB oY (ak1 (wpAny_runValue ?_))
    have X7:A.in1.in1.in1.handled=none:=by simp[hh]
    have AQ:(s.heap.push (gZ w)).objs.size=s.heap.objs.size+1:=anz _ _
    have lI:l≠(s.heap.push (gZ w)).objs.size:=by rw[AQ];exact alA (aob lt)
    have SI:s.heap.objs.size∉[(s.heap.push (gZ w)).objs.size,l]:=by
     rw[AQ];simp only[alk,ame,or_false,not_or]
     exact⟨alA (aom _),amj lt⟩
    refine XU ((Walks.list X7 _ l lI items).toS) s.heap.objs.size SI (key:=key) (led:=lE w) hit hn (items.size-0) 0 _ [] (by lia) (alv _)
     ⟨⟨_,aln _ rfl,rfl,rfl⟩,(oY.push _)⟩ (XT (ak5 _ gS))
     ⟨aoU,fun _ hx=>(by cases hx),fun j hj=>(by lia),alv _⟩ fun s' M hm jx hM=>?_
    obtain⟨h',g',d',AR,og⟩:=s'
    obtain rfl:g'=s.gens:=hm.gens
    obtain rfl:d'=s.drawn:=hm.drawn
    obtain rfl:og=s.os:=hm.os
    show alu _ _ _ _ _ _
    refine ak6 (show alu _ _ (ret Value.none) _ _ _ from ak6 ⟨rfl,h',AR,M,rfl,jx,hM,fun b o hb e=>?_⟩)
    refine hm.heap b o ?_ (ak5 _ (ak5 _ e))
    simp only[alk,ame,or_false,not_or,AQ]
    exact⟨alA hb,alA (aob hb)⟩
   ·cases r₂ with
    | error e=>exact AO
    | ok X9 =>
     cases X9 with
     | ret r =>
      obtain⟨rfl,h',tk,M,rfl,jx,hM,ed⟩:=AO
      repeat (any_goals (first|assumption|wp_step))
      exact h _ _ M jx hM ed
     | _=>exact AO.elim
  | _=>exact hr.elim
end
end Gz
namespace Gz
open PySem PySem.Spec PyProof.Rows L2
noncomputable def g9 (h:amH) (a:ala) (p:P2):Prop:=∃ o t u n,h.get? a=some o/\o.cls = .type "tuple" /\ o.data = .seq #[.int p.1 t,.int p.2 u] n
theorem g9.keep {h h':amH} {a:ala} {p:P2} (x:g9 h a p) (k:∀ o,h.get? a=some o->h'.get? a=some o):g9 h' a p:=let ⟨o,t,u,n,e,r⟩:=x;⟨o,t,u,n,k o e,r⟩
section
variable {prog:alr} {w:alS} {A:alY} {E:ak3->ak7->Prop} {s:ak7}
theorem N0 {x y:Int} {t u:Tok} {Q:ak3->ak7->Prop} (h:Q (.bool (decide (x<y))) s):alu (model prog w) A (aoM .Lt (.int x t) (.int y u)) Q E s :=
 richCompare_gives (op:=.Lt) (asQ s _ t) (asQ s _ u) PySem.F.slot_int_lt PySem.F.entry_int_lt (PySem.F.args_int_lt_2 _ _) (gives_int_lt _ _ t u) (fun x=>nomatch x) h
theorem wB {Q:ak3->ak7->Prop} {a b:ala} {p q:P2} (ha:g9 s.heap a p) (hb:g9 s.heap b q) (hu:A.units<apr) (h:Q (.bool (eQ p q)) s):alu (model prog w) A (aoM .Lt (.ref a) (.ref b)) Q E s:=by
 obtain⟨oa,t1,u1,n1,hoa,hca,hda⟩:=ha
 obtain⟨ob,t2,u2,n2,hob,hcb,gR⟩:=hb
 have Ta:s.TypeIs (.ref a) "tuple" := ⟨oa,hoa,hca⟩
 have Tb:s.TypeIs (.ref b) "tuple" := ⟨ob,hob,hcb⟩
 refine wpAny_richCompare_same_room Ta Tb aqQ (amr aqQ Ta PySem.F.entry_tuple_lt ?_ (PySem.F.args_tuple_lt_2 _ _)) hu
 show alu _ _ (isInstance (.ref b) (.type "tuple") >>= _) _ _ s
 refine ak1 (aon Tb isSubtype_tuple_tuple ?_)
 simp only[arv,alw,if_false]
 refine ak1 (arw hoa hda ?_)
 refine ak1 (arw hob gR ?_)
 refine ak1 ?_
 refine wpAny_forIn_list _ (fun rest r s'=>r.1=none/\s'=s/\(rest=[(.int p.1 t1,.int q.1 t2),(.int p.2 u1,.int q.2 u2)]∨(rest=[(.int p.2 u1,.int q.2 u2)]/\p.1=q.1)∨(rest=[]/\p.1=q.1/\p.2=q.2))) _ ?_ ?_ _ _ ⟨rfl,rfl,.inl rfl⟩
 ·rintro ⟨u,v⟩ rest r s' ⟨hr,rfl,hz⟩
  rcases hz with hz|⟨hz,e1⟩|⟨hz,_⟩
  ·cases hz
   refine ak1 (aqa ?_)
   by_cases e:p.1=q.1
   ·rw[show (p.1 == q.1)=true by simpa using e]
    simp only[arv,alw,if_false]
    exact ak6 ⟨rfl,rfl,.inr (.inl ⟨trivial,e⟩)⟩
   ·rw[show (p.1 == q.1)=false by simpa using e]
    simp only[asK,if_true]
    refine ak1 (an8 (ak1 (N0 (ak1 (ak6 (ak6 (ak6 ⟨_,rfl,fun z=>(nomatch z),?_⟩)))))))
    have e2:eQ p q=decide (p.1<q.1):=by unfold eQ;rw[decide_eq_false e];simp
    rw[<- e2]
    exact h
  ·cases hz
   refine ak1 (aqa ?_)
   by_cases e:p.2=q.2
   ·rw[show (p.2 == q.2)=true by simpa using e]
    simp only[arv,alw,if_false]
    exact ak6 ⟨rfl,rfl,.inr (.inr ⟨trivial,e1,e⟩)⟩
   ·rw[show (p.2 == q.2)=false by simpa using e]
    simp only[asK,if_true]
    refine ak1 (an8 (ak1 (N0 (ak1 (ak6 (ak6 (ak6 ⟨_,rfl,fun z=>(nomatch z),?_⟩)))))))
    have e2:eQ p q=decide (p.2<q.2):=by unfold eQ;rw[e1];simp
    rw[<- e2]
    exact h
  ·cases hz
 ·rintro ⟨r1,r2⟩ s' ⟨hr,rfl,hz⟩
  simp only at hr
  subst hr
  rcases hz with hz|⟨hz,_⟩|⟨_,e1,e2⟩
  ·cases hz
  ·cases hz
  ·refine ak6 ⟨_,rfl,fun z=>(nomatch z),?_⟩
   have e3:eQ p q=false:=by unfold eQ;rw[e1,e2];simp
   rw[e3] at h
   exact h
theorem Ya {R:apQ->ak7->Prop} {I S:ala} {fp wr:List ala} {n:Nat} {P:Nat->ak3->Prop} {St:Nat->amH->Prop} {G:amH->Prop} {bt:Nat->Nat->Bool} {kw:List (Str × ak3)}
 (W:Walks prog w A.in1 I fp wr n P St) (hG:∀ h h',G h->(∀ b o,b∉wr->b≠S->h.get? b=some o->h'.get? b=some o)->G h')
 (jf:∀ i j vi vj (s:ak7) (Q:ak3->ak7->Prop) (E:ak3->ak7->Prop),P i vi->P j vj->G s.heap->Q (.bool (bt i j)) s->alu (model prog w) A.in1 (aoM .Lt vi vj) Q E s) (hS:S∉fp):∀ (k j:Nat) (s:ak7) (vb:ak3) (c:Nat),k+(j+1)=n->St (j+1) s.heap->G s.heap->P (anm bt j) vb ->
  s.heap.get? S=some { cls:=.type "list",dict:=none,data:=.seq #[vb,vb] c,slots:=#[] } ->
  (∀ v h' tk,P (anm bt (n-1)) v->(∀ b o,b∉wr->b≠S->s.heap.get? b=some o->h'.get? b=some o)->R (.ok (.ret v)) { s with heap:=h',toks:=tk }) ->
  anR (model prog w) A (.builtin "min.loop" ⟨[.ref I,.none,.ref S],kw⟩) R s:=by
 have nS:S∉wr:=fun z=>hS (W.sub _ z)
 have nm:(toString "min" ++ toString ".loop" : String) = "min.loop" := by decide
 intro k
 induction k with
 | zero =>
  intro j s vb c e st g pb oS fin
  have e':j+1=n:=by lia
  refine alZ amG ?_
  rw[alL alQ _]
  show alu _ A.in1 (aoe (.ref S) >>= _) _ _ s
  refine ak1 (amJ oS rfl ?_)
  show alu _ A.in1 (tryCatch (anu (.ref I)) _ >>= _) _ _ s
  refine ak1 (ams (W.done s _ _ (e' ▸ st) fun h1 tk kp=>?_))
  have cv:=kp S _ nS oS
  show alu _ A.in1 (aov S (fun _=>#[]) >>= _) _ _ _
  refine ak1 ?_
  refine amq cv rfl (ak1 (amP (ak6 ?_)))
  exact fin vb _ tk (by rw[<- e'];exact pb) fun b o hw hb q=>(alg _ _ (al5 hb)).trans (kp b o hw q)
 | succ k ih =>
  intro j s vb c e st g pb oS fin
  have lt:j+1<n:=by lia
  refine alZ amG ?_
  rw[alL alQ _]
  show alu _ A.in1 (aoe (.ref S) >>= _) _ _ s
  refine ak1 (amJ oS rfl ?_)
  show alu _ A.in1 (tryCatch (anu (.ref I)) _ >>= _) _ _ s
  refine ak1 (ams (W.item (j+1) s _ _ lt st fun v h1 tk pv fo kp=>?_))
  have cv:=kp S _ nS oS
  have g1:G h1:=hG _ _ g fun b o hw _ q=>kp b o hw q
  show alu _ A.in1 (tryCatch (holding [v,v] (aoM .Lt v vb >>= _)) _ >>= _) _ _ _
  refine ak1 (ams (al6 (ak1 (jf (j+1) (anm bt j) v vb _ _ _ pv pb g1 ?_))))
  refine ak1 (al6 (amh ?_))
  refine ak1 (amP (ak6 ?_))
  cases hb:bt (j+1) (anm bt j) with
  | true =>
   simp only[if_true]
   refine ak1 ?_
   refine amq cv rfl (ak1 (amP ?_))
   rw[nm]
   refine ak6 ⟨aml alQ _,ih (j+1) _ v _ (by lia) (W.frame _ _ _ fo fun b hf o q=>?_) (hG _ _ g1 fun b o _ dM q=>(alg _ _ (al5 dM)).trans q) (by simp only[anm,hb,if_true];exact pv) (alO _ cv rfl) fun v2 h2 gy p2 k2=>?_⟩
   ·exact (alg _ _ (fun z:S=b=>hS (by rw[z];exact hf))).trans q
   ·exact fin v2 h2 gy p2 fun b o hw dM q=>k2 b o hw dM ((alg _ _ (al5 dM)).trans (kp b o hw q))
  | false =>
   simp only[alw,if_false]
   refine ak1 (amP ?_)
   rw[nm]
   refine ak6 ⟨aml alQ _,ih (j+1) _ vb c (by lia) fo g1 (by simp only[anm,hb,alw,if_false];exact pb) cv fun v2 h2 gy p2 k2=>?_⟩
   exact fin v2 h2 gy p2 fun b o hw dM q=>k2 b o hw dM (kp b o hw q)
theorem Yb {Q:ak3->ak7->Prop} {a b:ala} {p q:P2} (hh:A.handled=none) (ha:g9 s.heap a p) (hb:g9 s.heap b q) (hu:A.in1.units<apr)
 (h:∀ h' tk,(∀ c o,s.heap.get? c=some o->h'.get? c=some o)->Q (.ref (if eQ q p=true then b else a)) { s with heap:=h',toks:=tk }):alu (model prog w) A (call (.builtin "min") [.ref a,.ref b]) Q E s:=by
 have nm:(toString "min" ++ toString ".loop" : String) = "min.loop" := by decide
 refine call_function_tree ar1 arJ arK (PySem.F.args_min2 _ _) ?_
 show alu _ A.in1 (amz "min" ["key","default"] 0 ⟨[],[]⟩ >>= _) _ _ s
 refine ak1 (apf (show amz "min" ["key","default"] 0 ⟨[],[]⟩=pure [none,none] from rfl) ?_)
 show alu _ A.in1 (as2 [.ref a,.ref b] >>= _) _ _ s
 refine ak1 (amd ?_)
 have hT:(s.heap.push { cls:=.type "tuple",data:=.seq #[.ref a,.ref b] }).IsTuple s.heap.objs.size #[.ref a,.ref b]:=⟨_,aln _ rfl,rfl,0,rfl⟩
 refine ak1 (arp hT ?_)
 show alu _ A.in1 (as0 [] >>= _) _ _ _
 refine ak1 (amd ?_)
 generalize e1:s.heap.push { cls:=.type "tuple",data:=.seq #[.ref a,.ref b] }=h1 at hT
 have z1:h1.objs.size=s.heap.objs.size+1:=by rw[<- e1];exact anz ..
 have k1:∀ c o,s.heap.get? c=some o->h1.get? c=some o:=fun c o e=>by rw[<- e1];exact ak5 _ e
 dsimp only
 generalize e2:h1.push { cls:=.type "tuple_iterator",data:=.fields #[.ref s.heap.objs.size,.int 0 0] }=h2
 have z2:h2.objs.size=h1.objs.size+1:=by rw[<- e2];exact anz ..
 have k2:∀ c o,h1.get? c=some o->h2.get? c=some o:=fun c o e=>by rw[<- e2];exact ak5 _ e
 have W:=Walks.tuple (prog:=prog) (w:=w) (A:=A.in1) hh h1.objs.size s.heap.objs.size (by rw[z1];exact alA (aom _)) #[.ref a,.ref b]
 have so:h2.IsTupleIter h1.objs.size s.heap.objs.size 0/\h2.IsTuple s.heap.objs.size #[.ref a,.ref b]:=⟨⟨_,by rw[<- e2];exact aln _ rfl,rfl,rfl⟩,by rw[<- e2];exact hT.push _⟩
 have zs:h2.objs.size∉[h1.objs.size,s.heap.objs.size]:=fun z=>by
  simp only[alk,ame,or_false] at z
  rcases z with z|z
  ·rw[z2] at z;exact asb _ z
  ·rw[z2,z1] at z
   exact absurd z (by intro z;have:s.heap.objs.size<s.heap.objs.size+1+1:=aob (aom _);rw[z] at this;exact amL _ this)
 have nS:h2.objs.size∉[h1.objs.size]:=fun z=>zs (by simp at z;simp[z])
 have up:∀ c o,s.heap.get? c=some o->c∉[h1.objs.size]/\c≠h2.objs.size/\(h2.push { cls:=.type "list",data:=.seq #[] }).get? c=some o:=fun c o e=>by
  have l1:=alb (k1 c o e)
  have l2:=alb (k2 c o (k1 c o e))
  exact⟨fun z=>by simp at z;rw[z] at l1;exact amL _ l1,alA l2,ak5 _ (k2 c o (k1 c o e))⟩
 let G:amH->Prop:=fun h=>g9 h a p/\g9 h b q
 have bL:∀ (x:ala) (r:P2),g9 s.heap x r->x∉[h1.objs.size]/\x≠h2.objs.size:=fun x r hx=>by
  obtain⟨o,_,_,_,e,_⟩:=hx
  exact⟨(up x o e).1,(up x o e).2.1⟩
 have hG:∀ h h',G h->(∀ b o,b∉[h1.objs.size]->b≠h2.objs.size->h.get? b=some o->h'.get? b=some o)->G h':=fun h h' g k=>⟨g.1.keep fun o e=>k a o (bL a p ha).1 (bL a p ha).2 e,g.2.keep fun o e=>k b o (bL b q hb).1 (bL b q hb).2 e⟩
 let bt:Nat->Nat->Bool:=fun i j=>eQ (if i=0 then p else q) (if j=0 then p else q)
 have N1:∀ i v,(#[alJ a,alJ b]:Array ak3)[i]?=some v->(i=0/\v = .ref a)∨(i=1/\v = .ref b):=fun i v e=>by
  match i,e with
  | 0,e=>cases e;exact .inl ⟨rfl,rfl⟩
  | 1,e=>cases e;exact .inr ⟨rfl,rfl⟩
  | i+2,e=>simp at e
 have jf:∀ i j vi vj (s:ak7) (Q:ak3->ak7->Prop) (E:ak3->ak7->Prop),(#[alJ a,alJ b]:Array ak3)[i]?=some vi->(#[alJ a,alJ b]:Array ak3)[j]?=some vj->G s.heap->Q (.bool (bt i j)) s->alu (model prog w) A.in1 (aoM .Lt vi vj) Q E s:=by
  intro i j vi vj s Q E ei ej g hq
  rcases N1 i vi ei with ⟨rfl,rfl⟩|⟨rfl,rfl⟩<;>rcases N1 j vj ej with ⟨rfl,rfl⟩|⟨rfl,rfl⟩
  ·exact wB g.1 g.1 hu hq
  ·exact wB g.1 g.2 hu hq
  ·exact wB g.2 g.1 hu hq
  ·exact wB g.2 g.2 hu hq
 have g0:G (h2.push { cls:=.type "list",data:=.seq #[] }):=⟨ha.keep fun o e=>(up a o e).2.2,hb.keep fun o e=>(up b o e).2.2⟩
 have oS:(h2.push { cls:=.type "list",data:=.seq #[] }).get? h2.objs.size=some { cls:=.type "list",dict:=none,data:=.seq #[] 0,slots:=#[] }:=aln _ rfl
 have fo:=W.frame 0 h2 (h2.push { cls:=.type "list",data:=.seq #[] }) so fun b _ o q=>ak5 _ q
 rw[nm]
 refine ak6 ⟨aml alQ _,?_⟩
 refine alZ amG ?_
 rw[alL alQ _]
 show alu _ A.in1 (aoe (.ref h2.objs.size) >>= _) _ _ _
 refine ak1 (amJ oS rfl ?_)
 show alu _ A.in1 (tryCatch (anu (.ref h1.objs.size)) _ >>= _) _ _ _
 refine ak1 (ams (W.item 0 _ _ _ (by simp) fo fun v h3 tk pv eX kp=>?_))
 have cv:=kp _ _ nS oS
 show alu _ A.in1 (aov h2.objs.size (fun _=>#[v,v]) >>= _) _ _ _
 refine ak1 ?_
 refine amq cv rfl ?_
 rw[nm]
 have g3:G h3:=hG _ _ g0 fun b o hw _ e=>kp b o hw e
 refine ak6 ⟨aml alQ _,Ya W hG jf zs 1 0 _ v _ (by simp) (W.frame _ _ _ eX fun b hf o e=>?_) (hG _ _ g3 fun b o _ dM e=>(alg _ _ (al5 dM)).trans e) pv (alO _ cv rfl) fun v2 h4 Yc p4 k4=>?_⟩
 ·exact (alg _ _ (fun z:h2.objs.size=b=>zs (by rw[z];exact hf))).trans e
 ·have ev:v2 = .ref (if eQ q p=true then b else a):=by
   have e4:(#[alJ a,alJ b]:Array ak3)[anm bt 1]?=some v2:=by simpa using p4
   have Aw:anm bt 1=if eQ q p=true then 1 else 0:=by
    show (if bt 1 0 then 1 else 0)=_
    rfl
   rw[Aw] at e4
   by_cases hl:eQ q p=true
   ·rw[if_pos hl] at e4 ⊢;cases e4;rfl
   ·rw[if_neg hl] at e4 ⊢;cases e4;rfl
  subst ev
  refine h h4 Yc fun c o e=>?_
  obtain⟨u1,u2,u3⟩:=up c o e
  exact k4 c o u1 u2 ((alg _ _ (al5 u2)).trans (kp c o u1 u3))
end
section
variable {X:Cx}
noncomputable def N2 (H:Hp) (Q:VK) (xs:List V):Prop:=∃ (a b:ala) (p q:P2),xs=[.ref a,.ref b]/\H a=some (.tup [.int p.1,.int p.2])/\H b=some (.tup [.int q.1,.int q.2])/\Q (.ref (if eQ q p=true then b else a)) H
theorem Yd (hc:X.calm=true) (hu:X.A.units+1<apr):fN X (.builtin "min") (fun xs H Q=>N2 H Q xs):=by
 intro pins s σ H xs us Q I r h
 obtain⟨a,b,p,q,rfl,ha,hb,hq⟩:=h
 obtain⟨u,v,rfl,ru,rv⟩:=vals2 r
 cases ru
 cases rv
 have pr:∀ (x:ala) (r:P2),H x=some (.tup [.int r.1,.int r.2])->g9 s.heap x r:=fun x r hx=>by
  obtain⟨_,ai,hv,hi⟩:=(show bD X.prog X.w H s.heap x (.tup [.int r.1,.int r.2]) from I.ao x _ hx)
  obtain⟨u1,u2,rfl,⟨t1,rfl⟩,⟨t2,rfl⟩⟩:=vals2 hv
  obtain⟨o,ho,bN,n,hd⟩:=hi
  exact⟨o,t1,t2,n,ho,bN,hd⟩
 exact Yb (I.ok.hd hc) (pr a p ha) (pr b q hb) (show X.A.units+1<apr from hu) fun h' tk k=>⟨.ref _,H,I.kept k,rfl,hq⟩
end
end Gz
namespace Gz
open PySem PySem.Spec PyProof.Rows L2
local macro_rules | `(tactic| walk_at "om") => `(tactic| ((try simp only [PySem.Addr] at *); lia))
section
variable {prog:alr} {w:alS} {A:alY} {E:ak3->ak7->Prop} {s:ak7}
end
end Gz
namespace Gz
open PySem PySem.Spec PyProof.Rows L2
local macro_rules | `(tactic| walk_at "om") => `(tactic| ((try simp only [PySem.Addr] at *); lia))
section
variable {prog:alr} {w:alS} {A:alY} {E:ak3->ak7->Prop} {s:ak7}
noncomputable def N3 (vs:List ak3) (kis:List (List Int)) (i:Nat):Prop:=∃ x t,vs[i]?=some (.int x t)/\kis.getD i []=[x]
theorem Ye {a:ala} {vs:List ak3} {kis:List (List Int)} {n:Nat} {P:atp->ak7->Prop} (ho:s.heap.get? a=some (am1 "list" vs.toArray n)) (hl:kis.length=vs.length) (c6:vs.length<64) (hk:∀ i,i<vs.length->N3 vs kis i)
 (fin:∀ h',(∀ b o,b≠a->s.heap.get? b=some o->h'.get? b=some o)->(∃ c,h'.get? a=some (am1 "list" (am0 ((bJ (bS kis) vs.length).toList.map fun i=>vs.getD i Value.none)) c))->P (.done (.ret .none)) { s with heap:=h' }) :
 alu (model prog w) A (an0.«list.sort» ⟨[.ref a],[]⟩) P E s:=by
 rw[asA]
 have la:a<s.heap.objs.size:=alb ho
 refine ak1 (listItems_at ho rfl (ak1 (aoy ho rfl ?_ (by rw[alo,anj];walk_at "om") (alv _))))
 obtain⟨e1,oa⟩:∃ e1,(s.heap.update a (ami fun _=>(#[]:Array ak3))).get? a=some (am1 "list" #[] e1):=⟨_,aph ho fun _=>#[]⟩
 have keep:∀ b o,b≠a->s.heap.get? b=some o->(s.heap.update a (ami fun _=>(#[]:Array ak3))).get? b=some o:=fun b o z e=>(alg _ _ (al5 z)).trans e
 refine ak1 (api oa rfl ?_)
 generalize s.heap.update a (ami fun _=>(#[]:Array ak3))=g at oa keep ⊢
 refine ak1 (aq6 ?_ (by show vs.length<=_;rw[anj];walk_at "om"));refine ak1 (ap8 ?_ (alv _))
 refine al6 ?_
 show alu (model prog w) A _ P E { s with heap:=(g.push (am1 "tuple" vs.toArray 0)).push (am1 "list" #[] 0) }
 have fX:((g.push (am1 "tuple" vs.toArray 0)).push (am1 "list" #[] 0)).get? a=some (am1 "list" #[] e1):=ak5 _ (ak5 _ oa)
 have oN:∀ b o,b≠a->s.heap.get? b=some o->((g.push (am1 "tuple" vs.toArray 0)).push (am1 "list" #[] 0)).get? b=some o:=fun b o z e=>ak5 _ (ak5 _ (keep b o z e))
 generalize (g.push (am1 "tuple" vs.toArray 0)).push (am1 "list" #[] 0)=g2 at fX oN ⊢
 dsimp only
 have Ai:((bJ (bS kis) vs.length).toList.map fun i=>vs.getD i Value.none).length=vs.length:=by
  rw[ak8,(kU (n:=vs.length) (jg kis)).1.length_eq,alN]
 have sz:(am0 ((bJ (bS kis) vs.length).toList.map fun i=>vs.getD i Value.none)).size<=alI+1:=by rw[alo,Ai,anj];walk_at "om"
 have done:P (.done (.ret .none)) { s with heap:=g2.update a (ami fun _=>am0 ((bJ (bS kis) vs.length).toList.map fun i=>vs.getD i Value.none)) } :=
  fin _ (fun b o z e=>(alg _ _ (al5 z)).trans (oN b o z e)) ⟨_,aph fX fun _=>_⟩
 by_cases h2:vs.toArray.size<2
 ·rw[if_pos h2,if_pos h2]
  refine ak1 (ak6 ?_)
  rw[StateT.run_pure]
  refine ak1 (ak6 ?_)
  dsimp only
  have self:(al4 vs.length).map (fun i=>vs.getD i Value.none)=vs:=by
   apply aqd
   ·simp
   ·intro i h1 h2
    simp[ak4,h2]
  have e0:(arrOf (SortSt.mk' general' (vs.toArray.zip vs.toArray) #[] 7 none)).map (·.2)=am0 ((bJ (bS kis) vs.length).toList.map fun i=>vs.getD i Value.none):=by
   unfold bJ
   rw[if_pos (by simpa using h2)]
   apply ar5.mp
   rw[show (al4 vs.length).toArray.toList=al4 vs.length from rfl,self]
   show ((vs.toArray.zip vs.toArray).map (·.2)).toList=_
   simp[ar6]
  rw[e0]
  refine ak1 (api fX rfl (ak1 (aoy fX rfl ?_ (alv _) sz)))
  simp only[bne_self_eq_false,alw,if_false]
  exact ak6 done
 ·rw[if_neg h2,if_neg h2]
  have sr:2<=vs.length:=by rw[alo] at h2;walk_at "om"
  refine ak1 (PySem.W.kas_kind (s:={ s with heap:=g2 }) (T:=.type "int") sr (fun v hv=>?_) (by decide) (by decide) ?_)
  ·obtain⟨i,hi,rfl⟩:=anO hv
   obtain⟨x,tt,e,_⟩:=hk i hi
   rw[ak9 hi] at e
   rw[Option.some.inj e]
   exact PySem.W.Looks.now
  have ask:(ar7 vs.length).kasWp (asB prog w A (oneType') vs) (fun p s'=>s' = { s with heap:=g2 }/\p=bJ (bS kis) vs.length) { s with heap:=g2 }:=by
   have pv:=zB _ (zA (n:=vs.length) (jg kis) (by walk_at "om"))
   refine zx (lt:=bS kis) (n:=vs.length) (Ok:=fun s'=>s' = { s with heap:=g2 }) (fun i j C s' hi hj e q=>?_) (fun p s' e q=>⟨e,?_⟩) _ _ rfl pv
   ·subst e
    obtain⟨x1,t1,a1,l1⟩:=hk i hi
    obtain⟨x2,t2,a2,l2⟩:=hk j hj
    show alu _ _ (keyLt' oneType' (vs.getD i Value.none) (vs.getD j Value.none)) C _ _
    rw[ak4,ak4,a1,a2,keyLt'_oneType]
    have e1:bS kis i j=decide (x1<x2):=by
     unfold bS
     rw[l1,l2,HT.kJ]
     by_cases e:x1=x2
     ·rw[if_pos e,e];simp[HT.lexLt]
     ·rw[if_neg e]
    have q0:=q { s with heap:=g2 } rfl
    rw[e1] at q0
    exact oneLt_int (s:={ s with heap:=g2 }) q0
   ·rw[q];unfold bJ;rw[if_neg (by walk_at "om")]
  refine ak1 (amc (asC (κ:=oneType') (ks:=vs) (vs:=vs) (Q:=fun st s'=>s' = { s with heap:=g2 }/\arrOf st=(bJ (bS kis) vs.length).map (ar8 (vs.toArray.zip vs.toArray))/\failedOf st=none)
   rfl sr c6 (fun p st s' b1 b2 b3 b4=>⟨b4.1,by rw[b2,b4.2],b3⟩) ask) ?_ fun _ _ z=>z)
  rintro ⟨⟨⟩,st⟩ s' ⟨rfl,har,hf⟩
  dsimp only
  rw[ar9 rfl har]
  refine ak1 (api fX rfl (ak1 (aoy fX rfl ?_ (alv _) sz)))
  rw[hf]
  simp only[bne_self_eq_false,alw,if_false]
  exact ak6 done
theorem Yf {r:ala} {vs:List ak3} {kis:List (List Int)} {Q:ak3->ak7->Prop} (hl:kis.length=vs.length) (c6:vs.length<64) (hk:∀ i,i<vs.length->N3 vs kis i)
 (Aj:∀ (A':alY) (Q':List ak3->ak7->Prop) (E':ak3->ak7->Prop),A'.handled=A.handled->(∀ h' tk,(∀ b o,s.heap.get? b=some o->h'.get? b=some o)->s.heap.objs.size<=h'.objs.size->Q' vs { s with heap:=h',toks:=tk })->alu (model prog w) A' (collect (.ref r)) Q' E' s)
 (q:∀ l h' tk,s.heap.objs.size<=l->(∀ b o,s.heap.get? b=some o->h'.get? b=some o)->(∃ c,h'.get? l=some (am1 "list" (am0 ((bJ (bS kis) vs.length).toList.map fun i=>vs.getD i Value.none)) c))->Q (.ref l) { s with heap:=h',toks:=tk }) :
 alu (model prog w) A (call (.builtin "sorted") [.ref r]) Q E s:=by
 refine aoh kind_sorted plain_sorted entry_sorted (args_sorted1 _) ?_
 unfold an0.«sorted»
 refine ak1 (m:=checkCount "sorted" 1 1 _) (ak6 (ak1 (Aj _ _ _ rfl fun h1 tk keep hsz=>?_)))
 refine ak1 (ap8 ?_ (by rw[anj];walk_at "om"))
 have oL:(h1.push (am1 "list" vs.toArray 0)).get? h1.objs.size=some (am1 "list" vs.toArray 0):=aln _ rfl
 have iF:∀ b o,s.heap.get? b=some o->b≠h1.objs.size/\(h1.push (am1 "list" vs.toArray 0)).get? b=some o:=fun b o e=>by
  have:=alb e
  exact⟨by walk_at "om",ak5 _ (keep b o e)⟩
 show alu _ A.in1 (holding [.ref h1.objs.size] (call (.builtin "list.sort") [.ref h1.objs.size]) >>= _) _ _ { s with heap:=h1.push (am1 "list" vs.toArray 0),toks:=tk }
 generalize h1.push (am1 "list" vs.toArray 0)=h2 at oL iF ⊢
 generalize h1.objs.size=l at oL iF hsz ⊢
 refine ak1 (al6 (amr slot_list_sort ⟨_,oL,rfl⟩ asD ?body (args_list_sort _)))
 case body =>
  refine Ye (s:={ s with heap:=h2,toks:=tk }) oL hl c6 hk fun h' k c=>⟨_,rfl,ak6 ⟨_,rfl,q l h' tk hsz (fun b o e=>k b o (iF b o e).1 (iF b o e).2) c⟩⟩
end
end Gz
namespace Gz
open PySem PySem.Spec PyProof.Rows L2 j8
theorem Yg (kis:List (List Int)) (ns:List Int):cR kis V.non (ns.map V.int)=(cR kis 0 ns).map V.int:=by
 unfold cR
 rw[anI,ak8]
 refine anN fun i hi=>?_
 have hp:=(kU (n:=ns.length) (jg kis)).1
 have:i<ns.length:=anx.mp (hp.mem_iff.mp hi)
 simp[asG,this]
theorem N4:∀ M:List (Int × PySem.Tok),Vals ((M.map (·.1)).map V.int) (M.map fun m=>Value.int m.1 m.2)
 | []=>.nil
 | m::M=>.cons ⟨m.2,rfl⟩ (N4 M)
noncomputable def N5 (K:ak2) (t:TE):TE:=fun σ H Q=>t σ H fun v H1=>∃ (a:ala) (ns:List Int),v=V.ref a/\ah K H1 a (ns.map V.int)/\ns.length<=3 /\
 ∀ zs:List Int,zs.Nodup->(∀ x,x∈zs↔x∈ns)->zs.Pairwise (· <= ·)->∀ l,H1 l=none->Q (.ref l) (upd H1 l (.lst (zs.map V.int)))
section
variable {X:Cx}
theorem Yh {e:am7} {t:TE} {p1 p2 pos hJ:Pos} (hc:X.calm=true) (he:PE X e t) (kc:Gl X "sorted") (Yi:X.mg "sorted" = none) (lF:amb "sorted" = some (.builtin "sorted"))
 (AS:Gl X "set") (oZ:X.mg "set" = none) (sZ:amb "set" = some (.type "set"))
 (cN:alM [e] X.env=[(false,eval e X.env)]:=by rfl) (tf:alM [.Call (.Name "set" p2) [e] [] hJ] X.env=[(false,eval (.Call (.Name "set" p2) [e] [] hJ) X.env)]:=by rfl) :
 PE X (.Call (.Name "sorted" p1) [.Call (.Name "set" p2) [e] [] hJ] [] pos) (N5 X.K t):=by
 intro pins s σ H Q I h
 refine amW (eW I kc Yi lF ?_ (by decide) (by decide))
 refine aoY ?_ (by rw[tf];rfl) rfl
 rw[tf]
 show alu _ _ (spliced ((false,eval (.Call (.Name "set" p2) [e] [] hJ) X.env)::anQ pos [])) _ _ s
 refine anU ?_
 refine amW (eW I AS oZ sZ ?_ (by decide) (by decide))
 refine alW ?_ (by rw[cN];rfl) rfl
 rw[cN]
 show alu _ _ (spliced ((false,eval e X.env)::anQ hJ [])) _ _ s
 refine anU (aC (he pins s σ H _ I h) fun u s1 ⟨x,H1,I1,r1,q1⟩=>?_)
 obtain⟨a,ns,rfl,hS,hn,q⟩:=q1
 cases r1
 refine an7 ?_
 obtain⟨us,rv,pl,hz⟩:=I1.list hS
 have hl:us.length=ns.length:=by have:=rv.length;rw[ak8] at this;lia
 have hint:=intsAre_of rv
 refine X4 (items:=us.toArray) (key:=fun i=>ns.getD i 0) (I1.ok.hd hc) pl.isList (by simp;lia) (fun i v hv=>?_) fun h2 tk M Yj hM hk=>?_
 ·exact IntsAre.int_at hint i v (by simpa using hv)
 refine an7 ?_
 obtain⟨o,ep,tb,L,g1,g2,g3,AR,g4,g5,g6,g7⟩:=Yj
 have hx:oW X.w s1.heap.objs.size o ep tb L:=⟨g2,g3,AR,g4,g5⟩
 have hsz:us.toArray.size=us.length:=by simp
 rw[hsz] at hM
 obtain⟨m1,m2,m3,m4⟩:=hM
 have Yk:L.length=M.length:=by have:=congrArg List.length g7;simpa using this
 have hp:((g8 X.w s1.heap.objs.size ep (L.map (·.2)).toArray).toList).Perm (M.map jv):=by
  have:=AK X.w s1.heap.objs.size ep (L.map (·.2)).toArray
  rw[apm,g7] at this
  rw[g7];exact this
 obtain⟨M',e1,e2⟩:=NS hp
 have akV:M'.length=L.length:=e2.length_eq.trans Yk.symm
 have cS:(M'.map (·.1)).Nodup:=((e2.map (·.1)).nodup_iff).mpr m1
 have Yl:=N4 M'
 refine Yf (s:={ s1 with heap:=h2,toks:=tk }) (kis:=M'.map fun m=>[m.1]) (vs:=M'.map fun m=>Value.int m.1 m.2) (by simp) (by simp;lia) (fun i hi=>?_) (fun A' Q' E' hA hq=>?_) fun l h' gy k1 k2 k3=>?_
 ·have bM:i<M'.length:=by simpa using hi
  exact⟨M'[i].1,M'[i].2,by simp[bM],by simp[asG,bM]⟩
 ·refine MN (s:={ s1 with heap:=h2,toks:=tk }) (XM hx) (hA.trans (I1.ok.hd hc)) g1 (alp (show L.length<=64 by lia) (by decide)) fun h3 sq acc b1 b2 b3=>?_
  have Ym:acc.toList=M'.map fun m=>Value.int m.1 m.2:=by
   refine aoP fun i=>?_
   rw[ao1]
   by_cases hi:i<L.length
   ·have bM:i<acc.size:=by rw[b3.1];exact hi
    have wC:i<M'.length:=by lia
    have:=b3.2 i acc[i] (alV bM)
    dsimp only at this
    have e3:(g8 X.w s1.heap.objs.size ep (L.map (·.2)).toArray)[i]?=some (jv M'[i]):=by
     rw[<- ao1,e1]
     simp[wC]
    rw[e3] at this
    rw[alV bM,<- this]
    simp[wC]
   ·rw[anT (by rw[b3.1];lia)]
    rw[eq_comm,List.getElem?_eq_none_iff]
    simp only[ak8]
    lia
  rw[Ym]
  exact hq h3 sq b1 b2
 ·refine Al (s:=s1) (ks:=(M'.map (·.1)).map V.int) (kis:=M'.map fun m=>[m.1]) (us:=M'.map fun m=>Value.int m.1 m.2) I1 Yl ?_ ?_ (fun b u e=>k2 b u (hk b u (alb e) e)) k3 fun l' lH=>?_
  ·simp only[ak8]
   exact alp (show _<=64 by lia) (by decide)
  ·exact alp (aoW (alb g1)) k1
  ·rw[Yg]
   refine q _ ((oE.nodup_iff).mpr cS) (fun x=>?_) ?_ l' lH
   ·rw[oE.mem_iff,(e2.map (·.1)).mem_iff]
    constructor
    ·intro ed
     obtain⟨m,hm,rfl⟩:=alF.mp ed
     obtain⟨j,hj,ej⟩:=m2 m hm
     have:j<ns.length:=by lia
     rw[ej]
     simp[asG,this]
    ·intro ed
     obtain⟨j,hj,rfl⟩:=anO ed
     have:=m3 j (by lia)
     simpa [asG,hj] using this
   ·have:=LZ (kis:=M'.map fun m=>[m.1]) (d:=(0:Int)) (as:=M'.map (·.1)) (f:=fun x=>[x]) (by rw[anI];rfl)
    refine this.imp fun {a b} eK=>?_
    rw[HT.kJ] at eK
    by_cases e:b=a
    ·lia
    ·rw[if_neg e] at eK
     have:=of_decide_eq_false eK
     lia
end
end Gz
namespace Gz
open PySem PySem.Spec PyProof.Rows L2
noncomputable def iL (u:ak3):Bool:=match u with|.none=>true|_=>false
noncomputable def iM (v:V):Bool:=decide (v = .non)
noncomputable def o4 (H:Hp) (xs:List V):Prop:=∀ v∈xs,v = .non ∨ ∃ a ys,v = .ref a/\H a=some (.tup ys)
section
variable {X:Cx} {pos:Pos}
theorem N6 {x:V} {u:ak3} {H:Hp} (r:RelV x u) (h:x = .non ∨ ∃ a ys,x = .ref a/\H a=some (.tup ys)):iL u=iM x:=by
 rcases h with rfl|⟨a,ys,rfl,_⟩
 ·cases r;rfl
 ·cases r;rfl
theorem N7 {H:Hp}:∀ {xs:List V} {us:List ak3},Vals xs us->o4 H xs->us.any iL=xs.any iM
 | _,_,.nil,_=>rfl
 | x::xs,u::us,.cons r t,f=>by
  rw[amN,amN,N6 r (f x (.head _)),N7 t fun v hv=>f v (.tail _ hv)]
theorem AU {H:Hp}:∀ {xs:List V} {us:List ak3},Vals xs us->o4 H xs->∀ (m:Nat) (h:m<us.length),iL us[m]=iM (xs.getD m .non)
 | _,_,.nil,_,m,h=>absurd h (am5 _)
 | x::xs,u::us,.cons r t,f,0,h=>N6 r (f x (.head _))
 | x::xs,u::us,.cons r t,f,m+1,h=>AU t (fun v hv=>f v (.tail _ hv)) m (aqs h)
theorem AV {pins:List (ala × Obj)} {σ:L2.St} {H:Hp} {s:ak7} {A:alY} (I:Inv X pins σ H s) (hu:A.units<apr):∀ {xs:List V} {us:List ak3},Vals xs us->o4 H xs->∀ u∈us,SeqAt.EqAt A s u .none (iL u)
 | _,_,.nil,_=>fun u hu=>by cases hu
 | x::xs,u::us,.cons r t,f=>fun u' AW=>by
  rcases alk.mp AW with rfl|AW
  ·rcases f x (.head _) with rfl|⟨a,ys,rfl,ha⟩
   ·cases r;exact SeqAt.EqAt.same _
   ·cases r
    obtain⟨_,ai,r',o',k1,k2,n,k3⟩:=(show bD X.prog X.w H s.heap a (.tup ys) from I.ao a _ ha)
    exact SeqAt.EqAt.tuple_none ⟨o',k1,k2,n,k3⟩ hu
  ·exact AV I hu t (fun v hv=>f v (.tail _ hv)) u' AW
noncomputable def Yn (K:ak2):R2:=fun x y H Q=>∃ a xs,x = .non/\y = .ref a/\ah K H a xs/\o4 H xs/\Q (.bl (xs.any iM)) H
theorem AX (hu:X.A.units+1<apr):bp X (amD .In) (Yn X.K):=by
 intro pins s σ H x y v u Q I rx ry h
 obtain⟨a,xs,rfl,rfl,hq,hn,q⟩:=h
 cases rx
 cases ry
 obtain⟨ai,r,pl,hz⟩:=I.list hq
 refine SeqAt.in_listAt iL pl.isList (fun w hw=>AV I (A:=X.A.in1) (am9 (knd:=dS X.prog X.w) hu) r hn w (by simpa using hw)) ⟨.bl _,H,I,rfl,?_⟩
 rw[show ai.toArray.any iL=ai.any iL by simp,N7 r hn]
 exact q
noncomputable def Yo (K:ak2) (x:V) (ys:List V) (H:Hp) (Q:VK):Prop:=∃ a xs j,x = .ref a/\ys=[.non]/\ah K H a xs/\o4 H xs/\j<xs.length/\xs.length<=1000/\iM (xs.getD j .non)=true/\(∀ m,m<j->iM (xs.getD m .non)=false)/\Q (.int (j:Nat)) H
theorem N8 (hu:X.A.units+1<apr):y7 X "list.index" (Yo X.K):=by
 intro pins s σ H x xs v us Q I rx r h
 obtain⟨a,xs,j,rfl,rfl,hq,hn,hj,hl,h1,h2,q⟩:=h
 cases rx
 obtain⟨u,rfl,ru⟩:=vals1 r
 cases ru
 obtain⟨ai,r,pl,hz⟩:=I.list hq
 obtain⟨⟨cls,dd,data,sl⟩,ho,hc,n,hd⟩:=id pl.isList
 simp only at hc hd
 subst hc hd
 have hlen:ai.length=xs.length:=(Vals.length r).symm
 refine apT aoA ⟨_,ho,rfl⟩ PySem.F.entry_list_index (PySem.F.args_list_index_2 _ _)
  (SeqAt.list_indexAt a ai.toArray n dd sl .none iL j (by simpa [hlen] using hj) (by lia) ?_ ?_) ⟨ho,fun y hy=>AV I (A:=X.A.in1) (am9 (knd:=dS X.prog X.w) hu) r hn y (by simpa using hy),?_⟩
 ·show iL ai[j]=true
  rw[AU r hn];exact h1
 ·intro m hm ba
  show iL ai[m]=false
  rw[AU r hn];exact h2 m ba
 ·exact⟨.int j,H,I.tok _,⟨_,rfl⟩,q⟩
end
end Gz
namespace Gz
open PySem PySem.Spec PyProof.Rows L2
noncomputable def hU (p:P2):W2:=some (some p.1,some p.2)
theorem N9:∀ (ss:List S2) (a b:Int),∃ a' b',bz (some a,some b) ss=(some a',some b')
 | [],a,b=>⟨a,b,rfl⟩
 | s::ss,a,b=>by
  rw[v5]
  have h1:∃ x,cX (some a) s.1=some x:=by rcases s.1 with _|c<;>exact⟨_,rfl⟩
  have h2:∃ x,cY (some b) s.2=some x:=by rcases s.2 with _|c<;>exact⟨_,rfl⟩
  obtain⟨x,hx⟩:=h1
  obtain⟨y,hy⟩:=h2
  rw[hx,hy]
  exact N9 ss x y
theorem Yp {a b:Int} {ss:List S2} {s:S2} (h:dq (none,none) ((some a,some b)::ss)=some s):∃ p:P2,some s=hU p/\p.1<=p.2:=by
 unfold dq at h
 rw[v5] at h
 obtain⟨x,y,e⟩:=N9 ss a b
 rw[show (cX (none,none).1 (some a,some b).1,cY (none,none).2 (some a,some b).2)=((some a,some b):S2) from rfl,e] at h
 split at h
 ·cases h
 ·rename_i hc
  cases h
  exact⟨(x,y),rfl,by simpa [aY] using hc⟩
theorem Oa {f:Nat->W2} (hf:∀ k s,f k=some s->∃ p:P2,some s=hU p/\p.1<=p.2):∀ (ks:List Nat),(∀ k∈ks,f k≠none)->∃ pp:List P2,ks.map f=pp.map hU/\dN pp
 | [],_=>⟨[],rfl,fun _ h=>nomatch h⟩
 | k::ks,h=>by
  obtain⟨pp,e,ho⟩:=Oa hf ks fun j hj=>h j (.tail _ hj)
  cases hk:f k with
  | none=>exact absurd hk (h k (.head _))
  | some s =>
   obtain⟨p,e1,e2⟩:=hf k s hk
   refine⟨p::pp,by rw[alH,alH,e,hk,e1],fun q hq=>?_⟩
   rcases alk.mp hq with rfl|hq
   ·exact e2
   ·exact ho q hq
theorem all_some:∀ (ws:List W2),(∀ w∈ws,w≠none)->∃ gs:List S2,ws=gs.map some
 | [],_=>⟨[],rfl⟩
 | w::ws,h=>by
  obtain⟨gs,e⟩:=all_some ws fun j hj=>h j (.tail _ hj)
  cases w with
  | none=>exact absurd rfl (h none (.head _))
  | some s=>exact⟨s::gs,by rw[e];rfl⟩
theorem wD {H:Hp}:∀ {ys:List V} {ws:List W2},ay (cy H) ys ws->o4 H ys/\(ys.any iM=ws.any aoc)/\∀ m,iM (ys.getD m .non)=(ws.getD m none).isNone
 | [],[],_=>⟨(fun _ h=>nomatch h),rfl,fun _=>rfl⟩
 | y::ys,w::ws,h=>by
  obtain⟨h1,h2⟩:=h
  obtain⟨a,b,c⟩:=wD h2
  have key:(y = .non ∨ ∃ a ys,y = .ref a/\H a=some (.tup ys))/\iM y=w.isNone:=by
   cases w with
   | none =>
    obtain rfl:y = .non:=h1
    exact⟨.inl rfl,rfl⟩
   | some s =>
    obtain⟨p,rfl,hp⟩:=h1
    exact⟨.inr ⟨p,_,rfl,hp⟩,rfl⟩
  refine⟨fun v hv=>?_,by rw[amN,amN,b,key.2],fun m=>?_⟩
  ·rcases alk.mp hv with rfl|hv
   ·exact key.1
   ·exact a v hv
  ·cases m with
   | zero=>exact key.2
   | succ m=>exact c m
 | [],_::_,h=>h.elim
 | _::_,[],h=>h.elim
theorem AY {α:Type} {p:α->Bool} {d:α}:∀ {xs:List α},xs.any p=true->∃ j,j<xs.length/\p (xs.getD j d)=true/\∀ m,m<j->p (xs.getD m d)=false
 | [],h=>by cases h
 | x::xs,h=>by
  cases hx:p x with
  | true=>exact⟨0,Nat.zero_lt_succ _,hx,fun m hm=>absurd hm (am5 _)⟩
  | false =>
   rw[amN,hx,asY] at h
   obtain⟨j,h1,h2,h3⟩:=AY (d:=d) h
   refine⟨j+1,Nat.succ_lt_succ h1,h2,fun m hm=>?_⟩
   cases m with
   | zero=>exact hx
   | succ m=>exact h3 m (aqs hm)
theorem Ob {ws:List W2} (h:ws.any aoc=false):∀ w∈ws,w≠none:=fun w hw e=>by
 have:=apO.mp h w hw
 rw[e] at this
 exact this rfl
theorem AZ {H:Hp}:∀ {ys:List V} {pp:List P2},ay (cy H) ys (pp.map hU)->cZ H ys pp
 | [],[],_=>trivial
 | _::_,_::_,h=>⟨h.1,AZ h.2⟩
 | [],_::_,h=>h.elim
 | _::_,[],h=>h.elim
end Gz
namespace Gz
open PySem PySem.Spec PyProof.Rows L2
theorem jr.reach {ps:List P2} {ms:List Mk} {tp:Nat->Option P2} (T:jr ps ms tp):∀ (n t:Nat) {v k:Int},t+n<=ps.length ->
 (tp t=some (v,k)->∃ v' k',tp (t+n)=some (v',k')/\v'<=v+(pre (·.2) ps (t+n)-pre (·.2) ps t)) /\
 (tp (t+n)=some (v,k)->∃ v' k',tp t=some (v',k')/\v'<=v+(pre (·.1) ps t-pre (·.1) ps (t+n)))
 | 0,t,v,k,_=>⟨fun h=>⟨v,k,h,by simp⟩,fun h=>⟨v,k,h,by simp⟩⟩
 | n+1,t,v,k,hn=>by
  refine⟨fun h=>?_,fun h=>?_⟩
  ·obtain⟨v1,k1,e1,h1⟩:=(T.reach n t (by lia)).1 h
   obtain⟨v2,k2,e2,h2⟩:=T.fwd (t+n) v1 k1 (by lia) e1
   refine⟨v2,k2,e2,?_⟩
   rw[show t+(n+1)=(t+n)+1 by lia,fW _ ps (by lia)]
   lia
  ·obtain⟨v1,k1,e1,h1⟩:=T.bwd (t+n) v k (by lia) h
   obtain⟨v2,k2,e2,h2⟩:=(T.reach n t (by lia)).2 e1
   refine⟨v2,k2,e2,?_⟩
   rw[show t+(n+1)=(t+n)+1 by lia,fW _ ps (by lia)]
   lia
theorem Yq {ps:List P2} {ms ns:List Mk} {tp:Nat->Option P2} (T:jr ps ms tp) (hm:∀ m∈ms,m.1<=ps.length) (hn:∀ m∈ns,m.1<=ps.length) (h0:sT ns tp) {a b:Mk} (ha:a∈ms) (hb:b∈ns):¬ clash ps a b:=by
 rintro ⟨h,l,e1,e2,ba⟩
 obtain⟨v,k,e3,h3⟩:=T.top a ha h e1
 have sk:=hm a ha
 have bE:=hn b hb
 have key:∃ v' k',tp b.1=some (v',k')/\v'<=v+bB ps a.1 b.1:=by
  unfold bB
  by_cases hle:a.1<=b.1
  ·rw[if_pos hle]
   obtain⟨n,rM⟩:∃ n,b.1=a.1+n:=⟨b.1-a.1,by lia⟩
   rw[rM]
   exact (T.reach n a.1 (by lia)).1 e3
  ·rw[if_neg hle]
   obtain⟨n,rM⟩:∃ n,a.1=b.1+n:=⟨a.1-b.1,by lia⟩
   rw[rM] at e3 ⊢
   exact (T.reach n b.1 (by lia)).2 e3
 obtain⟨v',k',e4,h4⟩:=key
 have:=h0 b hb l v' k' e2 e4
 lia
theorem A0 {tb:Tb} {i:Int} {m:Mk}:m∈j7 tb i ↔ ∃ r∈tb,r.1.1=i/\m=(r.1.2.toNat,r.2):=by
 unfold j7
 simp only[alF,ama,decide_eq_true_eq]
 constructor
 ·rintro ⟨r,⟨h1,h2⟩,rfl⟩
  exact⟨r,wj.mem_iff.mp h1,h2,rfl⟩
 ·rintro ⟨r,h1,h2,rfl⟩
  exact⟨r,⟨wj.mem_iff.mpr h1,h2⟩,rfl⟩
noncomputable def tj (e:Nat) (tb:Tb):List (Int × List Mk):=(al4 e).map fun (i:Nat)=>((i:Int),j7 tb (i:Int))
end Gz
namespace Gz
open PySem PySem.Spec PyProof.Rows L2
theorem Yr {ps:List P2} (hp:dN ps) {i t:Nat} (ht:t<ps.length):bB ps i (t+1)<=bB ps i t+(aK ps t).2:=by
 have h:=hp _ (oH ht)
 have e1:=fW (·.1) ps ht
 have e2:=fW (·.2) ps ht
 unfold bB
 split<;>split<;>first|lia|(have z:i=t+1:=(by lia);subst z;lia)
theorem Ys {ps:List P2} (hp:dN ps) {i t:Nat} (ht:t<ps.length):bB ps i t<=bB ps i (t+1)-(aK ps t).1:=by
 have h:=hp _ (oH ht)
 have e1:=fW (·.1) ps ht
 have e2:=fW (·.2) ps ht
 unfold bB
 split<;>split<;>first|lia|(have z:i=t+1:=(by lia);subst z;lia)
theorem Yt (ps:List P2) (i:Nat):bB ps i i<=0:=by unfold bB;split<;>lia
theorem Oc {ps:List P2} (hp:dN ps) (ms:List Mk):∀ n,n<=ms.length->∃ tp,jr ps (ms.take n) tp
 | 0,_=>⟨fun _=>none,⟨fun _ _ _ _ e=>(nomatch e),fun _ h=>(nomatch h),fun _ _ _ _ e=>(nomatch e),fun _ _ _ _ e=>(nomatch e)⟩⟩
 | n+1,hn=>by
  obtain⟨tp,T⟩:=Oc hp ms n (by lia)
  have hm:ms[n]?=some ms[n]:=ak9 (by lia)
  generalize ms[n]=m at hm
  have et:ms.take (n+1)=ms.take n++[m]:=by rw[amK,hm];rfl
  have tl:(ms.take n).length=n:=by rw[ao2];lia
  cases hi:m.2.2 with
  | none =>
   refine⟨tp,⟨fun t v k ht e=>?_,fun a ha h e=>?_,T.fwd,T.bwd⟩⟩
   ·obtain⟨i,a,h,h1,h2,h3⟩:=T.val t v k ht e
    have:=(alj.mp h2).1
    exact⟨i,a,h,h1,by rw[et,al7 this];exact h2,h3⟩
   ·rw[et] at ha
    rcases alK.mp ha with z|z
    ·exact T.top a z h e
    ·rw[alP.mp z,hi] at e;cases e
  | some h0 =>
   have one:∀ t v k,(match tp t with|some (v,k)=>if h0+bB ps m.1 t<v then some (h0+bB ps m.1 t,(n:Int)) else some (v,k)|none=>some (h0+bB ps m.1 t,(n:Int)))=some (v,k) ->
    v<=h0+bB ps m.1 t/\(∀ v' k',tp t=some (v',k')->v<=v')/\((v=h0+bB ps m.1 t/\k=(n:Int))∨tp t=some (v,k)):=by
    intro t v k e
    cases h1:tp t with
    | none =>
     rw[h1] at e
     cases e
     exact⟨amF _,fun _ _ z=>(nomatch z),.inl ⟨rfl,rfl⟩⟩
    | some q =>
     obtain⟨v1,k1⟩:=q
     rw[h1] at e
     dsimp only at e
     split at e
     ·cases e
      refine⟨amF _,fun v' k' z=>?_,.inl ⟨rfl,rfl⟩⟩
      cases z
      lia
     ·cases e
      refine⟨by lia,fun v' k' z=>?_,.inr rfl⟩
      cases z
      exact amF _
   have ex:∀ t,∃ v k,(match tp t with|some (v,k)=>if h0+bB ps m.1 t<v then some (h0+bB ps m.1 t,(n:Int)) else some (v,k)|none=>some (h0+bB ps m.1 t,(n:Int)))=some (v,k):=fun t=>by
    cases h1:tp t with
    | none=>exact⟨_,_,rfl⟩
    | some q =>
     obtain⟨v1,k1⟩:=q
     dsimp only
     split<;>exact⟨_,_,rfl⟩
   refine⟨fun t=>match tp t with|some (v,k)=>if h0+bB ps m.1 t<v then some (h0+bB ps m.1 t,(n:Int)) else some (v,k)|none=>some (h0+bB ps m.1 t,(n:Int)),⟨fun t v k ht e=>?_,fun a ha h e=>?_,fun t v k ht e=>?_,fun t v k ht e=>?_⟩⟩
   ·obtain⟨_,_,⟨rfl,rfl⟩|e1⟩:=one t v k e
    ·exact⟨n,m,h0,rfl,by rw[et,amk (by lia),tl,aqR];rfl,hi,amF _⟩
    ·obtain⟨i,a,h,h1,h2,h3⟩:=T.val t v k ht e1
     have:=(alj.mp h2).1
     exact⟨i,a,h,h1,by rw[et,al7 this];exact h2,h3⟩
   ·obtain⟨v,k,e1⟩:=ex a.1
    obtain⟨o1,o2,_⟩:=one _ _ _ e1
    refine⟨v,k,e1,?_⟩
    rw[et] at ha
    rcases alK.mp ha with z|z
    ·obtain⟨v',k',e2,h2⟩:=T.top a z h e
     have:=o2 v' k' e2
     lia
    ·rw[alP.mp z] at e o1
     rw[hi] at e
     cases e
     have:=Yt ps m.1
     lia
   ·obtain⟨v',k',e1⟩:=ex (t+1)
    obtain⟨o1,o2,_⟩:=one _ _ _ e1
    refine⟨v',k',e1,?_⟩
    obtain⟨_,_,⟨rfl,rfl⟩|e3⟩:=one t v k e
    ·have:=Yr hp (i:=m.1) ht
     lia
    ·obtain⟨v2,k2,e4,h4⟩:=T.fwd t v k ht e3
     have:=o2 _ _ e4
     lia
   ·obtain⟨v',k',e1⟩:=ex t
    obtain⟨o1,o2,_⟩:=one _ _ _ e1
    refine⟨v',k',e1,?_⟩
    obtain⟨_,_,⟨rfl,rfl⟩|e3⟩:=one (t+1) v k e
    ·have:=Ys hp (i:=m.1) ht
     lia
    ·obtain⟨v2,k2,e4,h4⟩:=T.bwd t v k ht e3
     have:=o2 _ _ e4
     lia
theorem Yu {ps:List P2} {ms:List Mk} (hp:dN ps) (hm:∀ m∈ms,m.1<=ps.length) (hc:∀ a∈ms,∀ b∈ms,¬ clash ps a b):∃ c,j6 ps c/\meets ms c:=by
 obtain⟨tp,T⟩:=Oc hp ms ms.length (alm _)
 rw[amO] at T
 refine WB hp hm T fun m cC l v k e1 e2=>?_
 rcases Int.lt_or_le v l with h|h
 ·obtain⟨i,a,_,h2,h3⟩:=T.clash (hm m cC) e2 e1 h
  exact absurd h3 (hc a (alx h2) m cC)
 ·exact h
noncomputable abbrev Cl:=(En × Nat) × (En × Nat)
noncomputable def f6 (e:Int) (c:Cl):Bool:=decide (c.1.1=some e) || decide (c.2.1=some e)
noncomputable def wo (e:Int) (cs:List Cl):List Cl:=cs.filter fun c=>!f6 e c
noncomputable def fS:Nat->List Cl->Prop
 | 0,_=>True
 | _+1,[]=>False
 | n+1,c::cs=>∀ e,f6 e c=true->fS n (wo e (c::cs))
noncomputable def tm (es:List Int) (cs:List Cl):Prop:=∀ c∈cs,∃ e∈es,f6 e c=true
theorem Yv {e:Int} {es:List Int} {cs:List Cl} (h:tm es (wo e cs)):tm (e::es) cs:=fun c hc=>by
 cases hb:f6 e c with
 | true=>exact⟨e,.head _,hb⟩
 | false =>
  obtain⟨x,hx,h1⟩:=h c (ama.mpr ⟨hc,by rw[hb];rfl⟩)
  exact⟨x,.tail _ hx,h1⟩
inductive Pp where
 | nil:Pp
 | full:Pp
 | cls:Cl->Pp->Pp->Pp
noncomputable def kd:Nat->List Cl->Pp
 | 0,_=>.full
 | _+1,[]=>.full
 | n+1,c::cs=>.cls c (match c.1.1 with|none=>.nil|some e=>kd n (wo e (c::cs))) (if c.1.1=c.2.1 then .nil else match c.2.1 with|none=>.nil|some e=>kd n (wo e (c::cs)))
noncomputable def hV (gs:List S2) (tb:Tb) (as:List Int) (s:En × Nat) (m:Mk):Prop:=m.1=s.2/\match s.1 with|none=>gs[s.2]?=some m.2|some e=>e∉as/\((e,(s.2:Int)),m.2)∈tb
noncomputable def Val (ps:List P2) (gs:List S2) (tb:Tb) (mo:Int):Pp->List Int->Prop
 | .nil,_=>False
 | .full,as=>mo<as.length
 | .cls c a b,as=>(∃ m n,hV gs tb as c.1 m/\hV gs tb as c.2 n/\clash ps m n)/\(match c.1.1 with|none=>a = .nil|some e=>Val ps gs tb mo a (as++[e]))/\(match c.2.1 with|none=>b = .nil|some e=>if c.1.1=some e then b = .nil else Val ps gs tb mo b (as++[e]))
theorem lJ {e:Int} {c:Cl}:f6 e c=true↔c.1.1=some e∨c.2.1=some e:=by unfold f6;rw[aow,decide_eq_true_eq,decide_eq_true_eq]
theorem Od {ps:List P2} {gs:List S2} {tb:Tb} {mo:Int}:∀ (n:Nat) (cs:List Cl) (as:List Int),fS n cs->(as.length:Int)+n=mo+1->(∀ c∈cs,∃ m n,hV gs tb as c.1 m/\hV gs tb as c.2 n/\clash ps m n)->Val ps gs tb mo (kd n cs) as
 | 0,_,as,_,h,_=>by show mo<as.length;lia
 | n+1,[],_,h,_,_=>h.elim
 | n+1,c::cs,as,h,hl,hs=>by
  have sub:∀ e,f6 e c=true->Val ps gs tb mo (kd n (wo e (c::cs))) (as++[e]):=fun e he=>by
   refine Od n _ _ (h e he) (by rw[alD,aly];lia) fun c' i0=>?_
   obtain⟨h1,h2⟩:=ama.mp i0
   obtain⟨m,k,a1,a2,a3⟩:=hs c' h1
   have h3:f6 e c'=false:=by cases hh:f6 e c' with|false=>rfl|true=>rw[hh] at h2;cases h2
   have h4:∀ x,c'.1.1=some x∨c'.2.1=some x->x≠e:=fun x hx z=>by
    subst z
    rw[lJ.mpr hx] at h3
    cases h3
   refine⟨m,k,⟨a1.1,?_⟩,⟨a2.1,?_⟩,a3⟩
   ·have:=a1.2
    cases hx:c'.1.1 with
    | none=>rw[hx] at this;exact this
    | some x =>
     rw[hx] at this
     refine⟨fun z=>?_,this.2⟩
     rcases alK.mp z with z|z
     ·exact this.1 z
     ·exact h4 x (.inl hx) (alP.mp z)
   ·have:=a2.2
    cases hx:c'.2.1 with
    | none=>rw[hx] at this;exact this
    | some x =>
     rw[hx] at this
     refine⟨fun z=>?_,this.2⟩
     rcases alK.mp z with z|z
     ·exact this.1 z
     ·exact h4 x (.inr hx) (alP.mp z)
  refine⟨hs c (.head _),?_,?_⟩
  ·cases hx:c.1.1 with
   | none=>rfl
   | some e=>exact sub e (lJ.mpr (.inl hx))
  ·cases hx:c.2.1 with
   | none=>dsimp only;split<;>rfl
   | some e =>
    dsimp only
    by_cases he:c.1.1=some e
    ·rw[if_pos he,if_pos he]
    ·rw[if_neg he,if_neg he];exact sub e (lJ.mpr (.inr hx))
noncomputable abbrev Gp:=En × List Mk
noncomputable def wF (ps:List P2) (gs:List Gp) (cs:List Cl):Prop:=∀ c∈cs,∃ g∈gs,∃ h∈gs,∃ m∈g.2,∃ n∈h.2,c=((g.1,m.1),(h.1,n.1))/\clash ps m n
noncomputable def iN (ps:List P2) (g h:Gp) (cs:List Cl):Prop:=∀ m∈g.2,∀ n∈h.2,clash ps m n->∃ c∈cs,c.1.1=g.1/\c.2.1=h.1
theorem iN.more {ps:List P2} {g h:Gp} {cs ds:List Cl} (x:iN ps g h cs):iN ps g h (cs++ds):=fun m hm n hn hc=>let ⟨c,h1,h2⟩:=x m hm n hn hc;⟨c,amE _ h1,h2⟩
noncomputable def iO (gs:List Mk) (e:Nat) (tb:Tb):List Gp:=(none,gs)::(tj e tb).map fun r=>(some r.1,r.2)
theorem tq {tb:Tb} {es:List Int} {m:Mk}:m∈eB tb es ↔ ∃ r∈tb,r.1.1∉es/\m=(r.1.2.toNat,r.2):=by
 unfold eB
 constructor
 ·intro h
  obtain⟨r,hr,rfl⟩:=alF.mp h
  obtain⟨h1,h2⟩:=ama.mp hr
  exact⟨r,lr h1,by simpa using h2,rfl⟩
 ·rintro ⟨r,hr,h1,rfl⟩
  exact alF.mpr ⟨r,ama.mpr ⟨oE.mem_iff.mpr hr,by simpa using h1⟩,rfl⟩
theorem Oe {gm:List Mk} {e t:Int} {tb:Tb} {es:List Int} (ao:bZ e t tb) {m:Mk} (h:m∈gm++eB tb es):∃ g∈iO gm e.toNat tb,m∈g.2/\∀ x,g.1=some x->x∉es:=by
 rcases alK.mp h with z|z
 ·exact⟨_,.head _,z,fun x hx=>nomatch hx⟩
 ·obtain⟨r,hr,h1,rfl⟩:=tq.mp z
  have ho:=ao.2 r hr
  unfold jo at ho
  refine⟨(some r.1.1,j7 tb r.1.1),.tail _ (alF.mpr ⟨(r.1.1,j7 tb r.1.1),alF.mpr ⟨r.1.1.toNat,anx.mpr (by lia),by rw[anP ho.1.1]⟩,rfl⟩),A0.mpr ⟨r,hr,rfl,rfl⟩,fun x hx=>?_⟩
  cases hx
  exact h1
theorem Yw {ps:List P2} {gm:List Mk} {e t:Int} {tb:Tb} {es:List Int} {cs:List Cl} (ao:bZ e t tb) (hp:dN ps) (hm:∀ m∈gm++eB tb es,m.1<=ps.length) (hc:tm es cs)
 (hx:∀ g∈iO gm e.toNat tb,∀ h∈iO gm e.toNat tb,iN ps g h cs):∃ c,j6 ps c/\meets (gm++eB tb es) c :=
 Yu hp hm fun a ha b hb eK=>by
  obtain⟨g,h1,h2,h3⟩:=Oe ao ha
  obtain⟨h,k1,k2,k3⟩:=Oe ao hb
  obtain⟨c,c1,c2,c3⟩:=hx g h1 h k1 a h2 b k2 eK
  obtain⟨x,x1,x2⟩:=hc c c1
  rcases lJ.mp x2 with z|z
  ·exact h3 x (c2.symm.trans z) x1
  ·exact k3 x (c3.symm.trans z) x1
theorem snd_mk {ps:List P2} {gs:List S2} {gm:List Mk} {e t:Int} {tb:Tb} {cs:List Cl} (ao:bZ e t tb) (hg:∀ m∈gm,gs[m.1]?=some m.2) (h:wF ps (iO gm e.toNat tb) cs):∀ c∈cs,∃ m n,hV gs tb [] c.1 m/\hV gs tb [] c.2 n/\clash ps m n:=fun c hc=>by
 obtain⟨g,h1,k,h2,m,h3,n,h4,rfl,h5⟩:=h c hc
 have one:∀ g∈iO gm e.toNat tb,∀ m∈g.2,hV gs tb [] (g.1,m.1) m:=fun g kc m hm=>by
  rcases alk.mp kc with rfl|z
  ·exact⟨rfl,hg m hm⟩
  ·obtain⟨q,hq,rfl⟩:=alF.mp z
   obtain⟨i,_,rfl⟩:=alF.mp hq
   obtain⟨r,hr,e1,rfl⟩:=A0.mp hm
   have ho:=ao.2 r hr
   unfold jo at ho
   refine⟨rfl,ame,?_⟩
   show (((i:Int),((r.1.2.toNat:Nat):Int)),r.2)∈tb
   rw[anP ho.2.1,<- e1]
   exact hr
 exact⟨m,n,one g h1 m h3,one k h2 n h4,h5⟩
end Gz
namespace Gz
open PySem PySem.Spec PyProof.Rows L2
section
variable {prog:alr} {w:alS} {A:alY} {E:ak3->ak7->Prop} {s:ak7}
end
section
variable {X:Cx} {pos:Pos}
end
end Gz
namespace Gz
open PySem PySem.Spec PyProof.Rows L2
local macro_rules | `(tactic| walk_at "om") => `(tactic| ((try simp only [PySem.Addr] at *); lia))
noncomputable abbrev iP (h:amH) (e it:ala) (i:Int) (old:ak3) (a:ala) (f:Bool):Prop :=
 h.get? e=some { cls:=.type "enumerate",dict:=none,data:=.fields #[aoB a,.bool f,.ref it,aoB i,.none,old],slots:=#[] }
section
variable {prog:alr} {w:alS} {A:alY} {E:ak3->ak7->Prop} {s:ak7}
theorem Yx {e it l a:ala} {f:Bool} {oa:Obj} {i:Nat} {items:Array ak3} {x old:ak3} {Q:Option ak3->ak7->Prop}
 (he:iP s.heap e it i old a f) (ha:s.heap.get? a=some oa) (Yy:a≠e) (Yz:a≠it) (hit:s.heap.IsListIter it l i) (hl:s.heap.IsList l items) (hx:items[i]?=some x) (bK:e≠it)
 (hQ:∀ h',iP h' e it ((i:Int)+1) old a true->h'.IsListIter it l (i+1) ->
   h'.get? s.heap.objs.size=some { cls:=.type "tuple",data:=.seq #[.int i s.toks,x] }->h'.objs.size=s.heap.objs.size+1 ->
   (∀ b o,b≠e->b≠it->s.heap.get? b=some o->h'.get? b=some o)->Q (some (.ref s.heap.objs.size)) { s with heap:=h',toks:=s.toks+1 }) :
 alu (model prog w) A (anu (.ref e)) Q E s:=by
 have hT:s.TypeIs (.ref e) "enumerate" := ⟨_,he,rfl⟩
 obtain⟨hp,g,d,tk,os⟩:=s
 unfold anu
 refine ak1 (aox (amC (name:=anf "__next__") hT anq
  (amr anq hT ao9 ?_ (ao5 _))))
 show alu _ _ (field (.ref e) 2 >>= _) _ _ _
 refine ak1 (apn he rfl (x:=.ref it) rfl ?_)
 refine ak1 (wpAny_nextOf_list_item hit hl hx fun h₁ Of o5=>?_)
 replace o5:Heap.SameBut it hp h₁:=o5
 have wH:iP h₁ e it i old a f:=(o5.2 e bK).trans he
 show alu _ _ (field (.ref e) 3 >>= _) _ _ ⟨h₁,g,d,tk,os⟩
 refine ak1 (apn wH rfl (x:=aoB i) rfl ?_)
 show alu _ _ (field (.ref e) 4 >>= _) _ _ ⟨h₁,g,d,tk,os⟩
 refine ak1 (apn wH rfl (x:=.none) rfl ?_)
 show alu _ _ (mkInt i >>= _) _ _ ⟨h₁,g,d,tk,os⟩
 refine ak1 (wpAny_mkInt ?_)
 show alu _ _ (ash (.ref e) 3 (aoB ((i:Int)+1)) >>= _) _ _ ⟨h₁,g,d,tk+1,os⟩
 refine ak1 (apB wH (by simp) fun h₂ wI o6=>?_)
 replace o6:Heap.SameBut e h₁ h₂:=o6
 replace wI:iP h₂ e it ((i:Int)+1) old a f:=wI
 show alu _ _ (ash (.ref e) 4 .none >>= _) _ _ ⟨h₂,g,d,tk+1,os⟩
 refine ak1 (apB wI (by simp) fun h₃ wJ o7=>?_)
 replace o7:Heap.SameBut e h₂ h₃:=o7
 replace wJ:iP h₃ e it ((i:Int)+1) old a f:=wJ
 show alu _ _ (as2 [.int i tk,x] >>= _) _ _ ⟨h₃,g,d,tk+1,os⟩
 refine ak1 (aq6 ?_)
 have tu:iP (h₃.push { cls:=.type "tuple",data:=.seq #[.int i tk,x] }) e it ((i:Int)+1) old a f:=ak5 _ wJ
 generalize tD:h₃.push { cls:=.type "tuple",data:=.seq #[.int i tk,x] }=h₄ at tu
 have hsz:h₃.objs.size=hp.objs.size:=by rw[o7.1,o6.1,o5.1]
 have sX:e<hp.objs.size:=alb he
 have YA:h₄.get? hp.objs.size=some { cls:=.type "tuple",data:=.seq #[.int i tk,x] }:=by rw[<- tD,<- hsz];exact aln _ rfl
 have YB:h₄.objs.size=hp.objs.size+1:=by rw[<- tD,anz,hsz]
 have Og:∀ b o,b≠e->b≠it->hp.get? b=some o->h₄.get? b=some o:=fun b o il NZ hb=>by
  rw[<- tD];exact ak5 _ (o7.extBut b o il (o6.extBut b o il (o5.extBut b o NZ hb)))
 have YC:h₄.IsListIter it l (i+1):=by
  rw[<- tD];obtain⟨o,ho,r⟩:=(Of.extBut o6.extBut (al5 bK)).extBut o7.extBut (al5 bK);exact⟨o,ak5 _ ho,r⟩
 show alu _ _ (aor (.ref e) >>= _) _ _ ⟨h₄,g,d,tk+1,os⟩
 rw[hsz]
 clear tD wJ o7 wI o6 wH o5 Of hsz h₃ h₂ h₁
 have YD:h₄.get? a=some oa:=Og a oa Yy Yz ha
 refine ak1 ?_
 unfold aor
 refine ak1 (apn tu rfl (x:=aoB a) rfl ?_)
 show alu _ _ (loadIfAlive ((a:Int).toNat) >>= _) _ _ _
 rw[al1]
 refine ak1 (PySem.W.kdx_alive YD ?_)
 simp only[Option.isNone_some,alw,if_false]
 refine ak1 (apn tu rfl (x:=.bool f) rfl ?_)
 have fin:∀ h₅:amH,iP h₅ e it ((i:Int)+1) old a true->Heap.SameBut e h₄ h₅->Q (some (.ref hp.objs.size)) ⟨h₅,g,d,tk+1,os⟩:=fun h₅ tE ke =>
  hQ h₅ tE (YC.extBut ke.extBut (al5 bK)) (ke.extBut _ _ (amj sX) YA) (by show h₅.objs.size=hp.objs.size+1;rw[ke.1,YB]) fun b o Oh gF q=>ke.extBut b o Oh (Og b o Oh gF q)
 cases f with
 | true =>
  rw[if_neg (show ¬ ((aoF true != aoF true)=true) from alG)]
  refine ak6 ?_
  simp only[alw,if_false]
  exact ak6 ⟨_,rfl,ak6 (fin h₄ tu (Heap.SameBut.refl _ _))⟩
 | false =>
  rw[if_pos (show (aoF false != aoF true)=true from rfl)]
  refine ak1 (apB tu (by simp) fun h₅ tE ke=>?_)
  replace ke:Heap.SameBut e h₄ h₅:=ke
  replace tE:iP h₅ e it ((i:Int)+1) old a true:=tE
  refine ak6 ?_
  simp only[alw,if_false]
  exact ak6 ⟨_,rfl,ak6 (fin h₅ tE ke)⟩
theorem YE {e it l a:ala} {f:Bool} {i:Nat} {items:Array ak3} {old:ak3} {Q:Option ak3->ak7->Prop} (hh:A.handled=none)
 (he:iP s.heap e it i old a f) (hit:s.heap.IsListIter it l i) (hl:s.heap.IsList l items) (hx:items[i]?=none)
 (hQ:∀ h',asz it s.heap h'->Q none { s with heap:=h' }):alu (model prog w) A (anu (.ref e)) Q E s:=by
 have hT:s.TypeIs (.ref e) "enumerate" := ⟨_,he,rfl⟩
 unfold anu
 refine ak1 (aox (amC (name:=anf "__next__") hT anq
  (amr anq hT ao9 ?_ (ao5 _))))
 show alu _ _ (field (.ref e) 2 >>= _) _ _ _
 refine ak1 (apn he rfl (x:=.ref it) rfl ?_)
 refine ak1 (wpAny_nextOf_list_end hh hit hl hx fun h' x oM dD=>?_)
 obtain⟨o,ho,hc⟩:=dD
 refine ak1 (aon (T := "StopIteration") (b:=true) ⟨o,ho,hc⟩ aq4 ?_)
 exact ak6 (hQ _ oM)
noncomputable def lK (h:amH) (e it S:ala) (i:Nat):Prop :=
 (∃ old,IsEnum h e it i old) ∨ ∃ old a f oa,iP h e it i old a f/\h.get? a=some oa/\a≠e/\a≠it/\a≠S
theorem lK.keep {h h':amH} {e it S:ala} {i:Nat} (x:lK h e it S i) (hk:∀ b o,b≠S->h.get? b=some o->h'.get? b=some o) (hI:e≠S):lK h' e it S i:=by
 rcases x with ⟨old,q⟩|⟨old,a,f,oa,q,ha,h1,h2,h3⟩
 ·exact .inl ⟨old,hk _ _ hI q⟩
 ·exact .inr ⟨old,a,f,oa,hk _ _ hI q,hk _ _ h3 ha,h1,h2,h3⟩
theorem YF {e it l S:ala} {i:Nat} {items:Array ak3} {x:ak3} {Q:Option ak3->ak7->Prop} (st:lK s.heap e it S i) (hS:S<s.heap.objs.size)
 (hit:s.heap.IsListIter it l i) (hl:s.heap.IsList l items) (hx:items[i]?=some x) (bK:e≠it)
 (hQ:∀ h',lK h' e it S (i+1)->h'.IsListIter it l (i+1) ->
   h'.get? s.heap.objs.size=some { cls:=.type "tuple",data:=.seq #[.int i s.toks,x] }->h'.objs.size=s.heap.objs.size+1 ->
   (∀ b o,b≠e->b≠it->s.heap.get? b=some o->h'.get? b=some o)->Q (some (.ref s.heap.objs.size)) { s with heap:=h',toks:=s.toks+1 }) :
 alu (model prog w) A (anu (.ref e)) Q E s:=by
 have ce:((i:Int)+1)=((i+1:Nat):Int):=by lia
 have hi:it<s.heap.objs.size:=let ⟨_,q,_⟩:=hit;alb q
 rcases st with ⟨old,he⟩|⟨old,a,f,oa,he,ha,h1,h2,h3⟩
 ·exact aqn he hit hl hx bK fun h' q1 q2 q3 q4 q5=>hQ h' (.inr ⟨x,_,false,_,by rw[<- ce];exact q1,q3,amj (alb he),amj hi,amj hS⟩) q2 q3 q4 q5
 ·exact Yx he ha h1 h2 hit hl hx bK fun h' q1 q2 q3 q4 q5=>hQ h' (.inr ⟨old,a,true,oa,by rw[<- ce];exact q1,q5 a oa h1 h2 ha,h1,h2,h3⟩) q2 q3 q4 q5
theorem YG {e it l S:ala} {i:Nat} {items:Array ak3} {Q:Option ak3->ak7->Prop} (hh:A.handled=none) (st:lK s.heap e it S i) (hit:s.heap.IsListIter it l i) (hl:s.heap.IsList l items) (hx:items[i]?=none)
 (hQ:∀ h',asz it s.heap h'->Q none { s with heap:=h' }):alu (model prog w) A (anu (.ref e)) Q E s:=by
 rcases st with ⟨old,he⟩|⟨old,a,f,oa,he,_⟩
 ·exact aqG hh he hit hl hx hQ
 ·exact YE hh he hit hl hx hQ
end
structure jy (items:Array ak3) (lo:ala) (h:amH) (as:List ala):Prop where
 rise:as.Pairwise (· < ·)
 above:∀ a∈as,lo<=a
 pairs:∀ (j:Nat) (a:ala),as[j]?=some a->∃ t x,items[j]?=some x/\h.get? a=some { cls:=.type "tuple",data:=.seq #[.int j t,x] }
theorem jy.there {items:Array ak3} {lo:ala} {h:amH} {as:List ala} (g:jy items lo h as) {a:ala} (ha:a∈as):a<h.objs.size:=by
 obtain⟨j,hj⟩:=am6.mp ha
 obtain⟨_,_,_,e⟩:=g.pairs j a hj
 exact alb e
theorem jy.keep {items:Array ak3} {lo:ala} {h h':amH} {as:List ala} (g:jy items lo h as) (k:∀ b o,lo<=b->h.get? b=some o->h'.get? b=some o):jy items lo h' as :=
 ⟨g.rise,g.above,fun j a hj=>let ⟨t,x,e1,e2⟩:=g.pairs j a hj;⟨t,x,e1,k a _ (g.above a (alx hj)) e2⟩⟩
section
variable {prog:alr} {w:alS} {A:alY} {s:ak7} {R:apQ->ak7->Prop} {items:Array ak3}
theorem YH {S e it l lo:ala} (hh:A.handled=none) (bK:e≠it) (o8:S≠e) (o9:S≠it) (wK:l≠S) (hle:l≠e) (oX:l≠it) (Oi:S<lo) (YI:e<lo) (Oj:it<lo) (hn:items.size<=alI) (res:ak3) {h₁:amH}
 (hR:∀ h' tk acc c as,(∀ b o,b≠S->b≠e->b≠it->h₁.get? b=some o->h'.get? b=some o)->h'.get? S=some { cls:=.type "list",dict:=none,data:=.seq acc c,slots:=#[] }->as.length=items.size->jy items lo h' as ->
   acc.toList=as.map alJ->R (.ok (.ret res)) { s with heap:=h',toks:=tk }) :
 ∀ (k i:Nat) (h:amH) (tk c:Nat) (acc:Array ak3) (as:List ala),items.size-i=k->i<=items.size->lK h e it S i->h.IsListIter it l i->h.IsList l items->(∀ b o,b≠S->b≠e->b≠it->h₁.get? b=some o->h.get? b=some o) ->
  h.get? S=some { cls:=.type "list",dict:=none,data:=.seq acc c,slots:=#[] }->acc.toList=as.map alJ->as.length=i->jy items lo h as->lo<=h.objs.size ->
  anR (model prog w) A (.builtin "list.extend.loop" ⟨[.ref S,.ref e,res],[]⟩) R { s with heap:=h,toks:=tk }:=by
 intro k
 induction k with
 | zero =>
  intro i h tk c acc as hk hi cM hit hl A3 hS fA kf hG hz
  have cH:i=items.size:=by lia
  refine alZ apL ?_
  rw[alL anC _]
  show alu _ A.in1 (anu (.ref e) >>= _) _ _ _
  refine ak1 (YG (s:={ s with heap:=h,toks:=tk }) (A:=A.in1) hh cM hit hl (anT (by lia)) fun h' he=>?_)
  exact ak6 (hR h' tk acc c as (fun b o h1 h2 h3 q=>he b o h3 (A3 b o h1 h2 h3 q)) (he S _ o9 hS) (by lia) (hG.keep fun b o hb q=>he b o (amj (alC Oj hb)) q) fA)
 | succ k ih =>
  intro i h tk c acc as hk hi cM hit hl A3 hS fA kf hG hz
  have ba:i<items.size:=by lia
  refine alZ apL ?_
  rw[alL anC _]
  show alu _ A.in1 (anu (.ref e) >>= _) _ _ _
  refine ak1 (YF (s:={ s with heap:=h,toks:=tk }) (A:=A.in1) cM (alb hS) hit hl (alV ba) bK fun h' b0 jn hT hsz ed=>?_)
  have jx:=ed S _ o8 o9 hS
  have Ol:acc.size=i:=by
   have:acc.toList.length=i:=by rw[fA,ak8,kf]
   simpa using this
  show alu _ A.in1 (aov S (·.push (.ref h.objs.size)) >>= _) _ _ _
  refine ak1 ?_
  have Om:lo<=h.objs.size:=hz
  have sb:∀ b o,b≠S->h'.get? b=some o->(h'.update S (ami (·.push (.ref h.objs.size)))).get? b=some o:=fun b o hb q=>(alg _ _ (al5 hb)).trans q
  refine amq jx rfl (ak6 ⟨aml anC _,ih (i+1) _ (tk+1) _ (acc.push (.ref h.objs.size)) (as++[h.objs.size]) (by lia) ba
   (b0.keep sb (al5 o8)) (jn.at fun o q=>sb it o (al5 o9) q) ((hl.at fun o q=>ed l o hle oX q).at fun o q=>sb l o wK q)
   (fun b o h1 h2 h3 q=>sb b o h1 (ed b o h2 h3 (A3 b o h1 h2 h3 q))) (alO _ jx rfl) (by rw[arN,fA];simp) (by rw[alD,kf];rfl) ?_ ?_⟩)
   (by rw[Ol];lia) (by show (acc.push _).size<=alI+1;rw[Array.size_push,Ol];lia)
  ·have up:∀ b o,lo<=b->h.get? b=some o->(h'.update S (ami (·.push (.ref h.objs.size)))).get? b=some o:=fun b o hb q =>
    sb b o (amj (alC Oi hb)) (ed b o (amj (alC YI hb)) (amj (alC Oj hb)) q)
   have G':=hG.keep up
   refine⟨?_,?_,?_⟩
   ·refine ao8.mpr ⟨hG.rise,List.pairwise_singleton _ _,fun a ha b hb=>?_⟩
    rw[alP.mp hb];exact hG.there ha
   ·intro a ha
    rcases alK.mp ha with ha|ha
    ·exact hG.above a ha
    ·rw[alP.mp ha];exact Om
   ·intro j a hj
    by_cases hjl:j<as.length
    ·rw[al7 hjl] at hj
     exact G'.pairs j a hj
    ·rw[amk (by lia)] at hj
     have YJ:j-as.length=0:=by
      rcases Nat.eq_zero_or_pos (j-as.length) with z|z
      ·exact z
      ·rw[am4 (by rw[aly];exact z)] at hj;cases hj
     rw[YJ] at hj
     cases hj
     obtain rfl:j=i:=by lia
     exact⟨_,_,alV ba,sb _ _ (amj (alC Oi Om)) hT⟩
  ·rw[(amm ..).1]
   show lo<=h'.objs.size
   rw[hsz]
   exact arO hz
end
theorem YK:arG (.type "enumerate") "__len__" = pure none:=by rw[apk,an3];kernel_rfl
theorem YL:arG (.type "enumerate") "__length_hint__" = pure none:=by rw[apk,an3];kernel_rfl
section
variable {prog:alr} {w:alS} {A:alY} {E:ak3->ak7->Prop} {s:ak7} {e it l:ala} {items:Array ak3}
theorem YM {R:apQ->ak7->Prop} (hh:A.handled=none) (old:ak3) (he:IsEnum s.heap e it 0 old) (hit:s.heap.IsListIter it l 0) (hl:s.heap.IsList l items) (bK:e≠it) (hle:l≠e) (oX:l≠it) (S:ala) (o8:S≠e) (o9:S≠it) (wK:l≠S) (res:ak3) (c:Nat)
 (hS:s.heap.get? S=some { cls:=.type "list",data:=.seq #[] c }) (hn:items.size<=alI)
 (hR:∀ g tk acc c' as,(∀ b o,b≠S->b≠e->b≠it->s.heap.get? b=some o->g.get? b=some o)->g.get? S=some { cls:=.type "list",dict:=none,data:=.seq acc c',slots:=#[] }->as.length=items.size->jy items s.heap.objs.size g as ->
   acc.toList=as.map alJ->R (.ok (.ret res)) { s with heap:=g,toks:=tk }) :
 alu (model prog w) A.in1 (ano (.ref S) (.ref e) res)
  (fun f u=>match f with|.done f=>R (.ok f) u|.again k=>k.quiet=true/\anR (model prog w) A k R u) (fun e u=>R (.error e) u) s:=by
 have h1:ap1 (.ref S) (.ref e)=false:=by simp[ap1,o8]
 have hT:s.TypeIs (.ref e) "enumerate" := ⟨_,he,rfl⟩
 unfold ano
 refine ak1 (wpAny_typeOf hT ?_)
 rw[if_neg (by rw[h1];decide)]
 refine ak1 (apX he ?_)
 refine ak1 (al6 ?_)
 unfold an4
 refine ak1 (apd hT YK ?_)
 show alu _ A.in1 (specialOf (alJ e) (anf "__length_hint__") >>= _) _ _ _
 refine ak1 (apd hT YL ?_)
 refine ak6 ?_
 show alu _ A.in1 (rule "list.extend.makes-room" >>= fun _=>as6 (.ref S) >>= fun _=>again (.builtin "list.extend.loop" ⟨[.ref S,.ref e,res],[]⟩)) _ _ _
 refine ak1 (an8 ?_)
 refine ak1 ?_
 show alu _ A.in1 (aov S (·.push .none) >>= fun _=>aov S (·.pop)) _ _ _
 refine ak1 (amq hS rfl ?_)
 have Oo:=alO (ami (·.push Value.none)) hS rfl
 refine amq Oo rfl ?_
 have YN:=alO (ami (·.pop)) Oo rfl
 have jz:∀ b o,b≠S->s.heap.get? b=some o->((s.heap.update S (ami (·.push Value.none))).update S (ami (·.pop))).get? b=some o :=
  fun b o hb e=>(alg _ _ (al5 hb)).trans ((alg _ _ (al5 hb)).trans e)
 have sz:((s.heap.update S (ami (·.push Value.none))).update S (ami (·.pop))).objs.size=s.heap.objs.size:=by rw[(amm ..).1,(amm ..).1]
 refine ak6 ⟨aml anC _,YH (s:=s) (l:=l) (it:=it) (lo:=s.heap.objs.size) (items:=items) (h₁:=s.heap) hh bK o8 o9 wK hle oX (alb hS) (alb he) (let ⟨_,q,_⟩:=hit;alb q) hn res hR
  items.size 0 _ s.toks _ #[] [] rfl (alv _) (.inl ⟨old,jz _ _ (al5 o8) he⟩) (hit.at fun o q=>jz it o (al5 o9) q) (hl.at fun o q=>jz l o wK q) (fun b o h1 _ _ q=>jz b o h1 q) YN rfl rfl ⟨.nil,(fun _ h=>nomatch h),fun j a h=>by cases h⟩ (by rw[sz];exact alm _)⟩
theorem YO {Q:ak3->ak7->Prop} (hh:A.handled=none) (old:ak3) (he:IsEnum s.heap e it 0 old) (hit:s.heap.IsListIter it l 0) (hl:s.heap.IsList l items) (bK:e≠it) (hle:l≠e) (oX:l≠it) (hn:items.size<=alI)
 (hQ:∀ g tk acc c as,(∀ b o,b≠e->b≠it->s.heap.get? b=some o->g.get? b=some o)->g.get? s.heap.objs.size=some { cls:=.type "list",dict:=none,data:=.seq acc c,slots:=#[] }->as.length=items.size->jy items (s.heap.objs.size+1) g as ->
   acc.toList=as.map alJ->Q (.ref s.heap.objs.size) { s with heap:=g,toks:=tk }) :
 alu (model prog w) A (call (.type "list") [.ref e]) Q E s:=by
 have le:e<s.heap.objs.size:=alb he
 have li:it<s.heap.objs.size:=let ⟨_,q,_⟩:=hit;alb q
 have ll:l<s.heap.objs.size:=let ⟨_,q,_⟩:=hl;alb q
 refine callType_codes (Q₁:=fun y s₁=>y = .ref s.heap.objs.size/\s₁ = { s with heap:=s.heap.push { cls:=.type "list",data:=.seq #[] } }) PySem.F.called_list (PySem.F.typeCall_list_1 _) PySem.F.entry_list_init (code_list_new _ ⟨rfl,rfl⟩) fun y s₁ h₁=>?_
 obtain⟨rfl,rfl⟩:=h₁
 have e0:(s.heap.push { cls:=.type "list",data:=.seq #[] }).get? s.heap.objs.size=some { cls:=.type "list",data:=.seq #[] }:=aln _ rfl
 refine⟨⟨_,e0,rfl⟩,PySem.F.args_list_init_2 _ _,?_⟩
 show alu _ A.in1.in1 (do let z <- aqt (.ref s.heap.objs.size);as5 (.ref s.heap.objs.size) (fun _=>#[]);letGo z.toList.reverse;ano (.ref s.heap.objs.size) (.ref e) .none) _ _ _
 refine ak1 ?_
 unfold aqt
 refine ak1 (amJ e0 rfl (ak6 ?_))
 refine ak1 (m:=aov s.heap.objs.size (fun _=>#[])) (amq e0 rfl ?_)
 have e1:=alO (ami (fun _=>(#[]:Array ak3))) e0 rfl
 have jz:∀ b o,b≠s.heap.objs.size->s.heap.get? b=some o->((s.heap.push { cls:=.type "list",data:=.seq #[] }).update s.heap.objs.size (ami (fun _=>(#[]:Array ak3)))).get? b=some o :=
  fun b o hb e=>(alg _ _ (al5 hb)).trans (ak5 _ e)
 have sz:((s.heap.push { cls:=.type "list",data:=.seq #[] }).update s.heap.objs.size (ami (fun _=>(#[]:Array ak3)))).objs.size=s.heap.objs.size+1:=by rw[(amm ..).1,size_push']
 refine ak1 (amP ?_)
 exact YM (A:=A.in1) hh old (jz e _ (alA le) he) (hit.at fun o q=>jz it o (alA li) q) (hl.at fun o q=>jz l o (alA ll) q) bK hle oX s.heap.objs.size (amj le) (amj li) (alA ll) .none _ e1 hn
  fun g tk acc c as hk hS kf hG fA=>⟨rfl,hQ g tk acc c as (fun b o h1 h2 q=>hk b o (alA (alb q)) h1 h2 (jz b o (alA (alb q)) q)) hS kf (by rw[<- sz];exact hG) fA⟩
end
section
variable {X:Cx} {pins:List (ala × Obj)} {σ:L2.St} {H:Hp} {s:ak7}
theorem Inv.Oq {T:ala} {o:HO} (I:Inv X pins σ H s) (hf:cW X pins H T) (new:bD X.prog X.w (upd H T o) s.heap T o):Inv X pins σ (upd H T o) s:=by
 have e9:∀ b u,H b=some u->b≠T:=fun b u e=>gL e hf.1
 have up:∀ b u,H b=some u->upd H T o b=some u:=fun b u e=>by rw[aH (e9 b u e)];exact e
 refine I.step (g':=s.gens) (t':=s.toks) (d':=s.drawn) (h':=s.heap) (ch:=[T]) (fun b hb=>?_) (fun b o _ _ hc e _=>e) (fun b o _ _ hc e _=>⟨o.slots,e⟩) (fun b u hc e n=>by rw[aH (by simpa using hc)];exact n)
  (fun b o hc e=>⟨o,e⟩) (fun b xs e=>up b _ e) (fun b _ _ e=>up b _ e) (fun b ps e=>⟨#[],by rw[up b _ e];simp⟩) (fun m hm=>hm) (fun b u e=>?_) I.bare
 ·obtain rfl:b=T:=by simpa using hb
  obtain⟨_,d1,d2,d3,d4,d5⟩:=hf
  exact⟨d3,d1,d4,d5⟩
 ·by_cases hb:b=T
  ·subst hb;rw[au] at e;cases e;exact new
  ·rw[aH hb] at e
   exact (I.ao b u e).fI (fun c v hc q=>q) (fun c q=>up c _ q) fun c xs q=>up c _ q
theorem YQ {T b:ala} {o:HO} (h:cW X pins H b) (hb:b≠T):cW X pins (upd H T o) b:=⟨by rw[aH hb];exact h.1,h.2⟩
theorem Ot:∀ (as:List ala) (xs:List V) (us:List ak3) (i:Nat) (H:Hp),Inv X pins σ H s->Vals xs us->as.length=xs.length->as.Pairwise (· < ·)->(∀ a∈as,cW X pins H a) ->
 (∀ j a u,as[j]?=some a->us[j]?=some u->∃ t,s.heap.get? a=some { cls:=.type "tuple",data:=.seq #[.int ((i+j:Nat):Int) t,u] }) ->
 ∃ H',ak H H'/\Inv X pins σ H' s/\(∀ b,b∉as->H' b=H b)/\∀ j a x,as[j]?=some a->xs[j]?=some x->H' a=some (.tup [.int ((i+j:Nat):Int),x])
 | [],[],us,i,H,I,r,hl,hp,hf,ht=>⟨H,fun _ _ e=>e,I,fun _ _=>rfl,fun j a x h=>by cases h⟩
 | [],_::_,us,i,H,I,r,hl,hp,hf,ht=>by cases hl
 | _::_,[],us,i,H,I,r,hl,hp,hf,ht=>by cases hl
 | a::as,x::xs,us,i,H,I,r,hl,hp,hf,ht=>by
  cases us with
  | nil=>cases r
  | cons u us =>
  cases r with
  | cons r rs =>
  obtain⟨ba,cn⟩:=ana.mp hp
  have na:∀ b∈as,b≠a:=fun b hb=>amj (ba b hb)
  obtain⟨t,h0⟩:=ht 0 a u rfl rfl
  have I1:=Inv.Oq (o:=.tup [.int ((i+0:Nat):Int),x]) I (hf a (.head _)) ⟨z5,[.int ((i+0:Nat):Int) t,u],.cons ⟨_,rfl⟩ (.cons r .nil),⟨_,h0,rfl,_,rfl⟩⟩
  obtain⟨H',s1,I2,k1,k2⟩:=Ot as xs us (i+1) _ I1 rs (by simpa using hl) cn (fun b hb=>YQ (hf b (.tail _ hb)) (na b hb)) fun j b v e1 e2=>by
   obtain⟨t',q⟩:=ht (j+1) b v e1 e2
   exact⟨t',by rw[show i+1+j=i+(j+1) by lia];exact q⟩
  refine⟨H',fun b v e=>s1 b v (by rw[aH (gL e (hf a (.head _)).1)];exact e),I2,fun b hb=>?_,fun j b y e1 e2=>?_⟩
  ·rw[k1 b (fun z=>hb (.tail _ z)),aH (fun z=>hb (by rw[z];exact .head _))]
  ·cases j with
   | zero =>
    cases e1
    cases e2
    rw[k1 a (fun z=>na a z rfl),au]
   | succ j =>
    have:=k2 j b y e1 e2
    rw[show i+1+j=i+(j+1) by lia] at this
    exact this
end
theorem Ou:∀ as:List ala,Vals (as.map V.ref) (as.map alJ)
 | []=>.nil
 | _::as=>.cons rfl (Ou as)
noncomputable def Ov (K:ak2) (ta:TA):TE:=fun σ H Q=>ta σ H fun vs H1=>∃ a xs,vs=[.ref a]/\ah K H1 a xs/\∀ l ys H',ak H1 H'->H1 l=none->H' l=some (.lst ys)->ys.length=xs.length ->
 (∀ j y x,ys[j]?=some y->xs[j]?=some x->∃ p,y = .ref p/\H1 p=none/\H' p=some (.tup [.int (j:Nat),x]))->Q (.ref l) H'
theorem YR {X:Cx} {e:am7} {ta:TA} {p p2 pos hJ:Pos} (hc:X.calm=true) (hg:Gl X "list") (hm:X.mg "list" = none) (AS:Gl X "enumerate") (oZ:X.mg "enumerate" = none) (ha:PA X [e] ta)
 (hs:alM [.Call (.Name "enumerate" p2) [e] [] hJ] X.env=[(false,eval (.Call (.Name "enumerate" p2) [e] [] hJ) X.env)]:=by rfl) (cN:alM [e] X.env=[(false,eval e X.env)]:=by rfl) :
 PE X (.Call (.Name "list" p) [.Call (.Name "enumerate" p2) [e] [] hJ] [] pos) (Ov X.K ta):=by
 intro pins s σ H Q I h
 refine atl (eW I hg hm kP (alW ?_ hs rfl))
 rw[hs]
 show alu _ _ (spliced ((false,eval (.Call (.Name "enumerate" p2) [e] [] hJ) X.env)::anQ pos [])) _ _ s
 refine anU (atl (eW I AS oZ Lw (alW (aC (ha hJ pins s σ H _ I h) fun us s1 ⟨vs,H1,I1,r1,q1⟩=>?_) cN rfl)))
 obtain⟨a,xs,rfl,hq,q⟩:=q1
 obtain⟨u,rfl,ru⟩:=vals1 r1
 cases ru
 obtain⟨ai,rv,pl,hz⟩:=I1.list hq
 refine arf pl.isList fun h' he hit hsz hk=>?_
 refine an7 ?_
 have la:a<s1.heap.objs.size:=let ⟨_,e,_⟩:=pl.isList;alb e
 refine YO (s:={ s1 with heap:=h' }) (l:=a) (items:=ai.toArray) (I1.ok.hd hc) .none he hit (pl.isList.at fun o e=>hk a o e) (asb _) (alA (aob la)) (alA la) (by rw[alo,<- rv.length];exact hz) fun g tk acc c as dk hD kf hG fA=>?_
 have up:∀ b o,s1.heap.get? b=some o->g.get? b=some o:=fun b o e=>dk b o (alA (aob (alb e))) (alA (alb e)) (hk b o e)
 have I2:Inv X pins σ H1 { s1 with heap:=g,toks:=tk }:=I1.kept (t':=tk) up
 have A4:∀ b∈as,s1.heap.objs.size<=b:=fun b hb=>by
  have:=hG.above b hb
  have e:({ s1 with heap:=h' }:ak7).heap.objs.size=s1.heap.objs.size+2:=hsz
  walk_at "om"
 obtain⟨H',s2,I3,k1,k2⟩:=Ot as xs ai 0 H1 I2 rv (by rw[kf,alo];exact rv.length.symm) hG.rise (fun b hb=>I1.fL (A4 b hb) (I1.ao.fresh (A4 b hb))) fun j b v e1 e2=>by
  obtain⟨t,x,e3,e4⟩:=hG.pairs j b e1
  have:x=v:=by simpa [e2] using e3.symm
  subst this
  exact⟨t,by rw[atj];exact e4⟩
 have hl:s1.heap.objs.size<=h'.objs.size:=by rw[hsz];exact Nat.le_add_right _ _
 have nl:h'.objs.size∉as:=fun z=>absurd (hG.above _ z) (Nat.not_succ_le_self _)
 have f0:=I1.ao.fresh hl
 have Ow:as.length=xs.length:=by rw[kf,alo];exact rv.length.symm
 refine⟨.ref h'.objs.size,upd H' h'.objs.size (.lst (as.map V.ref)),Inv.Oq I3 (I1.fL hl (by rw[k1 _ nl];exact f0)) ⟨by rw[ak8,Ow];exact hz,acc.toList,c,?_,by rw[aq1];exact hD⟩,rfl,q _ (as.map V.ref) _ (fun b v e=>?_) f0 (au ..) (by rw[ak8,Ow]) fun j y x e1 e2=>?_⟩
 ·rw[fA]
  exact Ou as
 ·rw[aH (gL e f0)];exact s2 b v e
 ·rw[alz] at e1
  obtain⟨b,hb,rfl⟩:=alR.mp e1
  have hm:=alx hb
  refine⟨b,rfl,I1.ao.fresh (A4 b hm),?_⟩
  rw[aH (fun z=>nl (by rw[<- z];exact hm))]
  have:=k2 j b x hb e2
  rw[atj] at this
  exact this
end Gz
namespace Gz
open PySem PySem.Spec PyProof.Rows L2
noncomputable def kg:L2.St->Nat->(V->Prop)->Prop
 | [],_,_=>False
 | x::_,0,Q=>match x with|some v=>Q v|none=>False
 | _::σ,n+1,Q=>kg σ n Q
noncomputable def bV (x:V) (Q:Int->Prop):Prop:=match x with|.int i=>Q i|_=>False
noncomputable def lL (x:V) (Q:Bool->Prop):Prop:=match x with|.bl i=>Q i|_=>False
noncomputable def tF (x:V) (Q:ala->Prop):Prop:=match x with|.ref i=>Q i|_=>False
noncomputable def YS (xs:List V) (Q:V->Prop):Prop:=match xs with|[x]=>Q x|_=>False
noncomputable def YT (xs:List V) (Q:V->V->Prop):Prop:=match xs with|[x,y]=>Q x y|_=>False
noncomputable def kh (x:V) (Q:Bool->Prop):Prop:=match x with|.non=>Q true|_=>Q false
noncomputable def gG (x:V) (Q:Bool->Prop):Prop:=match x with|.non=>Q false|_=>Q true
section
variable {v:V} {o:Option V} {σ:L2.St} {n:Nat} {Q:V->Prop} {i:Int} {b:Bool} {a:ala} {QI:Int->Prop} {QB:Bool->Prop} {QR:ala->Prop} {x y:V} {Q2:V->V->Prop}
theorem YU:kg (some v::σ) 0 Q=Q v:=rfl
theorem YV:kg (o::σ) (n+1) Q=kg σ n Q:=rfl
theorem YW:bV (.int i) QI=QI i:=rfl
theorem YX:lL (.bl b) QB=QB b:=rfl
theorem YY:tF (.ref a) QR=QR a:=rfl
theorem YZ:YS [x] Q=Q x:=rfl
theorem Y0:YT [x,y] Q2=Q2 x y:=rfl
theorem Y1:kh .non QB=QB true:=rfl
theorem Y2:kh (.int i) QB=QB false:=rfl
theorem Y3:kh (.bl b) QB=QB false:=rfl
theorem Y4:kh (.ref a) QB=QB false:=rfl
theorem Y5:gG .non QB=QB false:=rfl
theorem Y6:gG (.int i) QB=QB true:=rfl
theorem Y7:gG (.bl b) QB=QB true:=rfl
theorem Y8:gG (.ref a) QB=QB true:=rfl
theorem Y9 {s:Str}:gG (.str s) QB=QB true:=rfl
theorem Za {s:Str}:kh (.str s) QB=QB false:=rfl
theorem kg.ex:∀ {σ:L2.St} {n:Nat},kg σ n Q->∃ v,σ[n]?=some (some v)/\Q v
 | [],_,h=>h.elim
 | some v::_,0,h=>⟨v,rfl,h⟩
 | none::_,0,h=>h.elim
 | _::σ,n+1,h=>kg.ex (σ:=σ) (n:=n) h
theorem bV.ex (h:bV x QI):∃ i,x = .int i/\QI i:=by cases x<;>first|exact⟨_,rfl,h⟩|exact h.elim
theorem lL.ex (h:lL x QB):∃ i,x = .bl i/\QB i:=by cases x<;>first|exact⟨_,rfl,h⟩|exact h.elim
theorem tF.ex (h:tF x QR):∃ i,x = .ref i/\QR i:=by cases x<;>first|exact⟨_,rfl,h⟩|exact h.elim
theorem gG.ex (h:gG x QB):QB (!decide (x = .non)):=by cases x<;>exact h
theorem kh.ex (h:kh x QB):QB (decide (x = .non)):=by cases x<;>exact h
end
section
variable {X:Cx} {e a b c:am7} {pos:Pos} {ta tb tc:TE} {op gQ:asV}
theorem Ox {x:V} {Q:Bool->Prop} (h:Q (sM x)):gG x Q:=by cases x<;>exact h
theorem A6 {c:Prop} [Decidable c] {Q:Bool->Prop} (h:Q (decide c)):if c then Q true else Q false:=by
 by_cases z:c
 ·rw[decide_eq_true z] at h;exact (show _=_ from if_pos z).mpr h
 ·rw[decide_eq_false z] at h;exact (show _=_ from if_neg z).mpr h
theorem Zb {a b:En} {A B:Prop} (h1:aY a b=true->A) (h2:aY a b=false->B):gG (ev a) fun k=>if k=true then (gG (ev b) fun k=>if k=true then (bV (ev a) fun i=>bV (ev b) fun j=>if j<i then A else B) else B) else B:=by
 rcases a with _|x
 ·exact h2 (Vq _)
 rcases b with _|y
 ·exact h2 rfl
 show if y<x then A else B
 split
 ·rename_i h;exact h1 (decide_eq_true h)
 ·rename_i h;exact h2 (decide_eq_false h)
noncomputable def Zc (t:TE):TE:=fun σ H Q=>∃ Q':VK,(∀ v H1,Q' v H1->Q v H1)/\t σ H Q'
theorem dP (h:PE X e ta):PE X e (Zc ta):=fun pins s σ H Q I ⟨Q',k,q⟩=>aC (h pins s σ H Q' I q) fun _ _ ⟨x,H1,I1,r1,q1⟩=>⟨x,H1,I1,r1,k _ _ q1⟩
theorem tG {t':TE} (h:PE X e ta) (k:∀ σ H Q,t' σ H Q->ta σ H Q):PE X e t':=fun pins s σ H Q I q=>h pins s σ H Q I (k σ H Q q)
theorem lM {t t':TT} (h:PT X e t) (k:∀ σ H Q,t' σ H Q->t σ H Q):PT X e t':=fun pins s σ H Q I q=>h pins s σ H Q I (k σ H Q q)
theorem A8 {f:ak3->ak3->Sem ak3} {r r':R2} (h:bp X f r) (k:∀ x y H Q,r' x y H Q->r x y H Q):bp X f r':=fun pins s σ H x y v u Q I rx ry q=>h pins s σ H x y v u Q I rx ry (k _ _ _ _ q)
noncomputable def Oy (i:Nat):TE:=fun σ H Q=>kg σ i fun v=>Q v H
theorem aa (i:Nat) {x:Str} {pos:Pos} (hN:X.N[i]?=some x:=by rfl) (hv:vg X.env.scope x:=by first|exact als rfl|exact ass (als rfl)|exact ass (ass rfl)) (hd:(x == ("__debug__" : Str))=false:=by decide)
 (fi:(x == ("__classdict__" : Str))=false:=by decide):PE X (.Name x pos) (Oy i):=tG (pv i hN hv hd fi) fun _ _ _ h=>h.ex
noncomputable def tH (C:Int->Int->Prop) (g:Int->Int->V):R2:=fun x y H Q=>bV x fun i=>bV y fun j=>C i j/\Q (g i j) H
noncomputable def wL (g:Int->Int->V):R2:=fun x y H Q=>bV x fun i=>bV y fun j=>Q (g i j) H
noncomputable def A9 (g:Int->V):V->Hp->VK->Prop:=fun x H Q=>bV x fun i=>Q (g i) H
noncomputable def Ba (p:Int->Int->Prop) [∀ i j,Decidable (p i j)]:R2:=fun x y H Q=>bV x fun i=>bV y fun j=>if p i j then Q (.bl true) H else Q (.bl false) H
theorem Bb {f:ak3->ak3->Sem ak3} {C:Int->Int->Prop} {g:Int->Int->V} (h:bp X f (rI C g)):bp X f (tH C g):=A8 h fun x y H Q q=>by
 obtain⟨i,rfl,q1⟩:=bV.ex q
 obtain⟨j,rfl,q5⟩:=bV.ex q1
 exact⟨i,j,rfl,rfl,q5⟩
theorem lN {f:ak3->ak3->Sem ak3} {g:Int->Int->V} (h:bp X f (fO g)):bp X f (wL g):=A8 h fun x y H Q q=>by
 obtain⟨i,rfl,q1⟩:=bV.ex q
 obtain⟨j,rfl,q5⟩:=bV.ex q1
 exact⟨i,j,rfl,rfl,q5⟩
theorem Bc {f:ak3->ak3->Sem ak3} {p:Int->Int->Prop} [∀ i j,Decidable (p i j)] (h:bp X f (fO fun i j=>.bl (decide (p i j)))):bp X f (Ba p):=A8 h fun x y H Q q=>by
 obtain⟨i,rfl,q1⟩:=bV.ex q
 obtain⟨j,rfl,q5⟩:=bV.ex q1
 clear q q1
 refine⟨i,j,rfl,rfl,?_⟩
 by_cases z:p i j
 ·rw[if_pos z] at q5;show Q (.bl (decide (p i j))) H;rw[decide_eq_true z];exact q5
 ·rw[if_neg z] at q5;show Q (.bl (decide (p i j))) H;rw[decide_eq_false z];exact q5
theorem Zd {f:ak3->Sem ak3} {g:Int->V} (h:n9 X f (rU g)):n9 X f (A9 g):=fun pins s σ H x v Q I rx q=>h pins s σ H x v Q I rx q.ex
theorem bc:bp X (aok .Add) (wL fun i j=>.int (i+j)):=lN Sz
theorem dQ:bp X (aok .Sub) (wL fun i j=>.int (i-j)):=lN SA
theorem jA:bp X (aok .Mod) (tH (fun _ j=>0<j) fun i j=>.int (i % j)):=Bb SD
theorem ia:bp X (aok .Mult) (tH ot fun i j=>.int (i * j)):=Bb Up
theorem tI:bp X (aok .Mult) (tH jm fun i j=>.int (i * j)):=Bb VX
theorem gH:n9 X (unaryOp .USub) (A9 fun i=>.int (-i)):=Zd SF
noncomputable def Oz (t:TE):TT:=fun σ H Q=>t σ H fun x H'=>lL x fun k=>Q k H'
theorem cT (h:PE X e ta) (he:∀ whole,asN e X.env whole=(do let v <- whole;asW e.pos;holding [v] (truthy v)):=by intro _;rfl):PT X e (Oz ta):=lM (Sj (dP h) he) fun σ H Q q=>⟨_,fun _ _ h=>h.ex,q⟩
noncomputable def wM (p:Int->Int->Prop) [∀ i j,Decidable (p i j)] (ta tb:TE):TT:=fun σ H Q=>ta σ H fun x H1=>tb σ H1 fun y H2=>bV x fun i=>bV y fun j=>if p i j then Q true H2 else Q false H2
theorem OA {p:Int->Int->Prop} [∀ i j,Decidable (p i j)] {x y:V} {H:Hp} {Q:Bool->Hp->Prop} (q:bV x fun i=>bV y fun j=>if p i j then Q true H else Q false H):Ba p x y H (fun z H'=>∃ k,z = .bl k/\Q k H'):=by
 obtain⟨i,rfl,q1⟩:=bV.ex q
 obtain⟨j,rfl,q5⟩:=bV.ex q1
 clear q q1
 by_cases z:p i j
 ·rw[if_pos z] at q5;exact (show _=_ from if_pos z).mpr ⟨_,rfl,q5⟩
 ·rw[if_neg z] at q5;exact (show _=_ from if_neg z).mpr ⟨_,rfl,q5⟩
theorem OB {p:Int->Int->Prop} [∀ i j,Decidable (p i j)] (ho:bp X (amD op) (fO fun i j=>.bl (decide (p i j)))) (ha:PE X a ta) (hb:PE X b tb) (hm:ant op b=false):PT X (.Compare a [op] [b] pos) (wM p ta tb) :=
 lM (gp (Bc ho) (dP ha) (dP hb) hm) fun σ H Q q=>⟨_,fun x H1 q1=>⟨_,fun y H2 q2=>OA q2,q1⟩,q⟩
theorem ki (ha:PE X a ta) (hb:PE X b tb):PT X (.Compare a [.Lt] [b] pos) (wM (fun i j=>i<j) ta tb):=OB rX ha hb (dW _)
theorem ib (ha:PE X a ta) (hb:PE X b tb):PT X (.Compare a [.Gt] [b] pos) (wM (fun i j=>j<i) ta tb):=OB vB ha hb (dW _)
noncomputable def eqT (x y:V) (Q:Bool->Prop):Prop:=match x with
 | .int i=>(match y with|.int j=>if i=j then Q true else Q false|.non=>Q false|.str _=>Q false|_=>False)
 | .str i=>(match y with|.str j=>if i=j then Q true else Q false|.non=>Q false|.int _=>Q false|_=>False)
 | .bl i=>(match y with|.bl j=>if i=j then Q true else Q false|.non=>Q false|_=>False)
 | .non=>(match y with|.non=>Q true|.int _=>Q false|.bl _=>Q false|.str _=>Q false|_=>False)
 | _=>False
noncomputable def neT (x y:V) (Q:Bool->Prop):Prop:=match x with
 | .int i=>(match y with|.int j=>if ¬ i=j then Q true else Q false|.non=>Q true|.str _=>Q true|_=>False)
 | .str i=>(match y with|.str j=>if ¬ i=j then Q true else Q false|.non=>Q true|.int _=>Q true|_=>False)
 | .bl i=>(match y with|.bl j=>if ¬ i=j then Q true else Q false|.non=>Q true|_=>False)
 | .non=>(match y with|.non=>Q false|.int _=>Q true|.bl _=>Q true|.str _=>Q true|_=>False)
 | _=>False
section
variable {i j:Int} {x y:V} {s t:Str} {b' b1:Bool} {Q:Bool->Prop}
theorem Ze:eqT (.int i) (.int j) Q=if i=j then Q true else Q false:=rfl
theorem Zf:eqT (.str s) (.str t) Q=if s=t then Q true else Q false:=rfl
theorem Zg:eqT (.bl b') (.bl b1) Q=if b'=b1 then Q true else Q false:=rfl
theorem Zh:eqT .non .non Q=Q true:=rfl
theorem Zi:eqT .non (.int j) Q=Q false:=rfl
theorem Zj:eqT (.int i) .non Q=Q false:=rfl
theorem Zk:eqT (.int i) (.str s) Q=Q false:=rfl
theorem Zl:eqT .non (.str s) Q=Q false:=rfl
theorem Zm:neT (.int i) (.int j) Q=if ¬ i=j then Q true else Q false:=rfl
theorem Zn:neT (.str s) (.str t) Q=if ¬ s=t then Q true else Q false:=rfl
theorem Zo:neT .non .non Q=Q false:=rfl
theorem Zp:neT .non (.int j) Q=Q true:=rfl
theorem Zq:neT (.int i) .non Q=Q true:=rfl
theorem OC {c:Prop} [Decidable c] {Q:Bool->Prop} (q:if c then Q true else Q false):Q (decide c):=by
 by_cases z:c
 ·rw[if_pos z] at q;rw[decide_eq_true z];exact q
 ·rw[if_neg z] at q;rw[decide_eq_false z];exact q
theorem eqT.ex (h:eqT x y Q):i4 x y=true/\Q (decide (x=y)):=by
 cases x<;>cases y<;>first
  | exact h.elim
  | exact⟨rfl,h⟩
  | (refine⟨rfl,?_⟩;have:=OC h;simpa using this)
theorem neT.ex (h:neT x y Q):i4 x y=true/\Q (!decide (x=y)):=by
 cases x<;>cases y<;>first
  | exact h.elim
  | exact⟨rfl,h⟩
  | (refine⟨rfl,?_⟩;have:=OC h;simpa using this)
end
noncomputable def OD (ta tb:TE):TT:=fun σ H Q=>ta σ H fun x H1=>tb σ H1 fun y H2=>eqT x y fun k=>Q k H2
noncomputable def OE (ta tb:TE):TT:=fun σ H Q=>ta σ H fun x H1=>tb σ H1 fun y H2=>neT x y fun k=>Q k H2
theorem b8 (ha:PE X a ta) (hb:PE X b tb):PT X (.Compare a [.Eq] [b] pos) (OD ta tb) :=
 lM (gp rW (dP ha) (dP hb) (dW _)) fun σ H Q q=>⟨_,fun x H1 q1=>⟨_,fun y H2 q2=>⟨(eqT.ex q2).1,_,rfl,(eqT.ex q2).2⟩,q1⟩,q⟩
theorem lO (ha:PE X a ta) (hb:PE X b tb):PT X (.Compare a [.NotEq] [b] pos) (OE ta tb) :=
 lM (gp SG (dP ha) (dP hb) (dW _)) fun σ H Q q=>⟨_,fun x H1 q1=>⟨_,fun y H2 q2=>⟨(neT.ex q2).1,_,rfl,(neT.ex q2).2⟩,q1⟩,q⟩
noncomputable def OF (ta:TE):TT:=fun σ H Q=>ta σ H fun x H1=>kh x fun k=>Q k H1
noncomputable def OG (ta:TE):TT:=fun σ H Q=>ta σ H fun x H1=>gG x fun k=>Q k H1
theorem c8 {j pos'} (ha:PE X a ta):PT X (.Compare a [.Is] [.Constant .none j pos'] pos) (OF ta):=lM (rO (vo (dP ha))) fun σ H Q q=>⟨_,fun x H1 q1=>⟨_,rfl,q1.ex⟩,q⟩
theorem dE {j pos'} (ha:PE X a ta):PT X (.Compare a [.IsNot] [.Constant .none j pos'] pos) (OG ta):=lM (rO (yD (dP ha))) fun σ H Q q=>⟨_,fun x H1 q1=>⟨_,rfl,gG.ex q1⟩,q⟩
noncomputable def OH (p q:Int->Int->Prop) [∀ i j,Decidable (p i j)] [∀ i j,Decidable (q i j)] (ta tb tc:TE):TT:=fun σ H Q=>ta σ H fun x H1=>tb σ H1 fun y H2=>bV x fun i=>bV y fun j=>if p i j then (tc σ H2 fun z H3=>bV z fun k=>if q j k then Q true H3 else Q false H3) else Q false H2
theorem wN {p q:Int->Int->Prop} [∀ i j,Decidable (p i j)] [∀ i j,Decidable (q i j)] (ho:bp X (amD op) (fO fun i j=>.bl (decide (p i j)))) (cK:bp X (amD gQ) (fO fun i j=>.bl (decide (q i j)))) (ha:PE X a ta) (hb:PE X b tb) (hc:PE X c tc)
 (hm:as9 [op,gQ] [b,c]=false:=by with_unfolding_all rfl):PT X (.Compare a [op,gQ] [b,c] pos) (OH p q ta tb tc) :=
 lM (SH (Bc ho) (Bc cK) (dP ha) (dP hb) (dP hc) hm) fun σ H Q q=>⟨_,fun x H1 q1=>⟨_,fun y H2 q2=>by
  obtain⟨i,rfl,q3⟩:=bV.ex q2
  obtain⟨j,rfl,q5⟩:=bV.ex q3
  clear q2 q3
  by_cases z:p i j
  ·rw[if_pos z] at q5
   exact (show _=_ from if_pos z).mpr ⟨_,rfl,_,fun w' H4 q4=>by
    obtain⟨k,rfl,_⟩:=bV.ex q4
    exact OA (x:=.int j) q4,q5⟩
  ·rw[if_neg z] at q5
   exact (show _=_ from if_neg z).mpr ⟨_,rfl,⟨_,rfl,q5⟩⟩,q1⟩,q⟩
variable {rest:List am7}
noncomputable def OI (ta tb:TE):TE:=fun σ H Q=>ta σ H fun x H1=>lL x fun c=>if c=true then tb σ H1 Q else Q (.bl false) H1
noncomputable def OJ (ta tb:TE):TE:=fun σ H Q=>ta σ H fun x H1=>lL x fun c=>if c=true then Q (.bl true) H1 else tb σ H1 Q
noncomputable def OL (ta:TE):TE:=fun σ H Q=>ta σ H fun x H1=>lL x fun c=>Q (.bl (!c)) H1
theorem iQ (ha:PE X a ta) (hb:PE X (.BoolOp .And (b::rest) pos) tb):PE X (.BoolOp .And (a::b::rest) pos) (OI ta tb):=tG (Sk (dP ha) hb) fun σ H Q q=>⟨_,fun x H1 q1=>q1.ex,q⟩
theorem Zr (ha:PE X a ta) (hb:PE X (.BoolOp .Or (b::rest) pos) tb):PE X (.BoolOp .Or (a::b::rest) pos) (OJ ta tb):=tG (Sl (dP ha) hb) fun σ H Q q=>⟨_,fun x H1 q1=>q1.ex,q⟩
theorem Zs (ha:PE X a ta):PE X (.UnaryOp .Not a pos) (OL ta):=tG (Sm (dP ha)) fun σ H Q q=>⟨_,fun x H1 q1=>q1.ex,q⟩
noncomputable def OM (K:ak2) (ta:TE) (f:Str):TE:=fun σ H Q=>ta σ H fun x H1=>tF x fun a=>∃ C dx fs,H1 a=some (.ins C dx fs)/\fQ K C/\fj K C f/\∃ v,fs.lookup f=some v/\Q v H1
theorem fE {f:Str} {K:ak2} (hK:X.K=K) (he:PE X e ta) (hb:an5 e f X.env (eval e X.env)=eval e X.env):PE X (.Attribute e f pos) (OM K ta f):=by
 subst hK
 exact tG (Td (dP he) hb) fun σ H Q q=>⟨_,fun x H1 q1=>by
  obtain⟨a,rfl,C,dx,fs,h1,h2,h3,v,h4,q2⟩:=q1.ex
  exact⟨a,C,dx,fs,v,rfl,h1,h2,h3,h4,q2⟩,q⟩
noncomputable def ON (K:ak2) (ta tv:TE) (f:Str):TS:=fun D σ H=>tv σ H fun y H1=>ta σ H1 fun x H2=>tF x fun a=>∃ C dx fs,H2 a=some (.ins C dx fs)/\fQ K C/\fj K C f/\fs.length<1000 /\
 D.nx σ (upd H2 a (.ins C dx (dX f y fs)))
theorem pd {o value:am7} {f:Str} {pos':Pos} {tv:TE} (ha:PE X o ta) (hv:PE X value tv) (hs:aqy value (some (.Attribute o f pos')) pos.line X.env=pure false):PS X (.Assign [.Attribute o f pos'] value pos) (ON X.K ta tv f):=fun pins s σ H D I h =>
 Te (dP ha) (dP hv) hs pins s σ H D I ⟨_,fun y H1 q1=>⟨_,fun x H2 q2=>by
  obtain⟨a,rfl,C,dx,fs,h⟩:=q2.ex
  exact⟨a,C,dx,fs,rfl,h⟩,q1⟩,h⟩
end
end Gz
namespace Gz
open PySem PySem.Spec PyProof.Rows L2
section
variable {X:Cx} {K:ak2} {a b e:am7} {es:List am7} {ta tb:TE} {t:TA} {pos p:Pos}
theorem aw (ha:PE X a ta) (hb:PE X b tb) (hs:y6 b:=by exact fun _ _=>rfl):PE X (.Subscript a b pos) (kG (d0 X.K) ta tb):=cc cf ha hb hs
theorem dF (ha:PE X a ta) (hb:PE X b tb) (h:X.K=K:=by rfl) (hs:y6 b:=by exact fun _ _=>rfl):PE X (.Subscript a b pos) (kG (d0 K) ta tb):=cc (Vi h) ha hb hs
theorem aF {CX:dY} {k n:Nat} {f:ala} {fd:alB} {ps:List Str} {sp:Sp} {x y qual:Str} {st:anD} (F:aL X.prog X.w X.K X.mg X.base CX k f fd ps sp) (hr:ck n X.A) (hm:X.mg x=some (.ref f)) (G:aT X.K y qual st f fd) (hb:Binds X.K fd ps []) (hx:Passes CX X E0) (ha:PA X (e::es) t)
 (hk:k<=n:=by decide) (hg:Gl X x:=by rfl) (gR:(x == ("__debug__" : Str))=false:=by decide) (he:alM (e::es) X.env=(false,eval e X.env)::alM es X.env:=by rfl) (fm:(anQ pos (alM es X.env)).any (·.1)=false:=by rfl) :
 PE X (.Call (.Name x p) (e::es) [] pos) (yW sp [] E0 t):=dB F (hr.mono hk) hg hm G.kp hb .nil hx ha gR he fm
end
end Gz
namespace Be
open PySem L2 Gz
local macro_rules | `(tactic| walk_at "gzd") => `(tactic| dsimp only [seval, Nat.reduceAdd, Nat.reduceSub, ↓reduceIte, yE, Kb, yQ, kG, Kg, yC, tC, Ka, J6, yH, de, y3, yV, vE, yW, JT, JU, tB, JW, JX, JY, JZ, J0, J1, J5, J9, rI, fO, rU, Ki, Kj, UI, UJ, UK, UL, UM, Uz, UA, UB, UC, UD, UE, ite_tt, ite_ff, L2.start, UN, UO, List.map_cons, List.map_nil, List.length_cons, List.length_nil, List.replicate, List.nil_append, List.cons_append, List.getElem?_cons_zero, List.getElem?_cons_succ, List.set_cons_zero, List.set_cons_succ, Bool.not_true, Bool.not_false, Kw, Kx, K5, K4, K7, UP, UQ, UR, zH, zF, L8, yJ, yI, L0, Kd, KY, zZ, yM, yL, Vw, Vx, Kt, Ku, yX, Kz, KP, KL, KN, KZ, La, VJ, VL, VM, yR, Mq, z4, z7, Ab, Oy, YU, YV, YW, YX, YY, YZ, Y0, Y1, Y2, Y3, Y4, Za, Y5, Y6, Y7, Y8, Y9, tH, wL, A9, Ba, Oz, wM, OD, OE, Ze, Zf, Zg, Zh, Zi, Zj, Zk, Zl, Zm, Zn, Zo, Zp, Zq, OF, OG, OH, OI, OJ, OL, OM, ON, zV, zW, MV, zm, Lo, Lp, Lq, MT, Nt, K8, lz, lA, dz, jM, Ov, NB, W3, NA, AF, W9, N2, N5])
local macro_rules | `(tactic| walk_at "gzs") => `(tactic| simp only [seval, Nat.reduceAdd, Nat.reduceSub, reduceCtorEq, ↓reduceIte, ite_tt, ite_ff, List.map_cons, List.map_nil, List.length_cons, List.length_nil, List.nil_append, List.cons_append, Option.some.injEq, V.int.injEq, V.bl.injEq, V.ref.injEq, List.cons.injEq, exists_eq_left, exists_eq_left', exists_and_left, true_and, and_true, decide_eq_true_eq, Nat.zero_add, Nat.sub_self, Nat.add_one_sub_one, decide_true, decide_false, Bool.not_eq_true', decide_eq_false_iff_not, false_and, exists_false, and_assoc, not_false_eq_true, not_true_eq_false, List.append_nil, Option.join_some])
local macro_rules | `(tactic| walk_at "gzp") => `(tactic| first | (walk_at "gzd"; repeat (first | walk_at "gzs" | walk_at "gzd")) | (walk_at "gzs"; repeat (first | walk_at "gzd" | walk_at "gzs")))
local macro_rules | `(tactic| walk_at "gz") => `(tactic| try walk_at "gzp")
local macro_rules | `(tactic| walk_at "gzn") => `(tactic| try walk_at "gzp")
inductive cD (H:Hp) (v:V) (m:Mk):Prop
 | mk (t p:ala) (_:v = .ref t) (_:H t=some (.tup [.int m.1,.ref p])) (_:H p=some (.tup [ev m.2.1,ev m.2.2]))
theorem cD.same {H H':Hp} {v:V} {m:Mk} (h:cD H v m) (s:ak H H'):cD H' v m:=let ⟨t,p,e,a,b⟩:=h;⟨t,p,e,s _ _ a,s _ _ b⟩
noncomputable def wO (ps:List P2) (a b:Mk):Bool:=match a.2.2,b.2.1 with
 | some hi,some lo=>decide (bB ps a.1 b.1<lo-hi)
 | _,_=>false
noncomputable def top (i:Nat):anD:=PySem.Challenge.pw_gaze_k45_whole_asked_about_a_claim.main.body.getD i (.Pass ⟨0,0,0,0⟩)
noncomputable abbrev pe:anD:=top 7
noncomputable abbrev pf:anD:=top 8
noncomputable abbrev ph:anD:=top 9
noncomputable abbrev pj:anD:=top 11
noncomputable abbrev pq:anD:=top 13
noncomputable abbrev pw:anD:=top 14
noncomputable abbrev pA:anD:=top 15
noncomputable abbrev pB:anD:=top 16
noncomputable abbrev pC:anD:=top 17
noncomputable abbrev pE:anD:=top 18
noncomputable abbrev pF:anD:=top 19
noncomputable abbrev pG:anD:=top 20
noncomputable abbrev pH:anD:=top 21
noncomputable abbrev pI:anD:=top 23
noncomputable abbrev pJ:anD:=top 24
noncomputable abbrev pK:anD:=top 25
noncomputable abbrev pL:anD:=top 26
noncomputable abbrev pM:anD:=top 27
noncomputable abbrev pN:anD:=top 29
noncomputable abbrev pO:anD:=top 30
noncomputable abbrev pP:anD:=top 31
noncomputable abbrev pQ:anD:=top 32
noncomputable abbrev pR:anD:=top 34
noncomputable abbrev pS:anD:=top 35
noncomputable abbrev pU:anD:=top 36
noncomputable abbrev pV:anD:=top 37
noncomputable abbrev pW:anD:=top 38
noncomputable abbrev pX:anD:=top 39
noncomputable abbrev pY:anD:=inClass (top 43) 0
noncomputable abbrev pZ:anD:=inClass (top 43) 1
noncomputable abbrev p8:anD:=inClass (top 43) 2
noncomputable abbrev p9:anD:=inClass (top 43) 3
noncomputable abbrev qb:anD:=inClass (top 43) 4
noncomputable abbrev qc:anD:=inClass (top 43) 6
noncomputable abbrev qd:anD:=inClass (top 43) 10
noncomputable abbrev qe:anD:=inClass (top 43) 11
noncomputable abbrev qf:anD:=top 45
noncomputable abbrev qg:anD:=top 46
noncomputable abbrev qh:anD:=top 47
noncomputable abbrev qi:anD:=top 48
noncomputable abbrev qj:anD:=top 49
noncomputable abbrev qk:anD:=top 50
noncomputable abbrev ql:anD:=top 51
noncomputable abbrev qm:anD:=top 52
noncomputable abbrev qo:anD:=top 53
noncomputable abbrev qp:anD:=top 54
noncomputable abbrev qq:anD:=top 55
noncomputable abbrev qr:anD:=top 56
noncomputable abbrev qt:anD:=top 57
noncomputable abbrev qu:anD:=top 58
noncomputable abbrev qv:anD:=top 59
noncomputable abbrev qw:anD:=top 60
noncomputable abbrev qx:anD:=top 61
noncomputable abbrev qy:anD:=top 62
noncomputable abbrev qz:anD:=top 63
noncomputable abbrev qA:anD:=top 64
noncomputable abbrev qB:anD:=top 65
noncomputable abbrev qC:anD:=top 66
noncomputable abbrev qD:anD:=top 67
noncomputable abbrev qE:anD:=top 68
noncomputable abbrev qF:anD:=top 69
noncomputable abbrev gI:anD:=top 70
theorem Zt:aU ["lo","hi"] ["lo","hi"] (az pe):=⟨rfl,rfl,rfl,by decide +kernel,rfl,by decide +kernel,by decide +kernel⟩
theorem Bf:aU ["one","other","lo","hi"] ["one","other"] (az pf):=⟨rfl,rfl,rfl,by decide +kernel,rfl,by decide +kernel,by decide +kernel⟩
theorem wQ:aU ["some","whole","one"] ["some"] (az ph):=⟨rfl,rfl,rfl,by decide +kernel,rfl,by decide +kernel,by decide +kernel⟩
theorem Zu:aU ["cell"] ["cell"] (az pj):=⟨rfl,rfl,rfl,by decide +kernel,rfl,by decide +kernel,by decide +kernel⟩
theorem Bg:aU ["one","step","lo","hi"] ["one","step"] (az pq):=⟨rfl,rfl,rfl,by decide +kernel,rfl,by decide +kernel,by decide +kernel⟩
theorem qG:aU ["boxes","steps","kept","turn","box","left"] ["boxes","steps"] (az pw):=⟨rfl,rfl,rfl,by decide +kernel,rfl,by decide +kernel,by decide +kernel⟩
theorem Zv:aU ["marks","turn"] ["marks","turn"] (az pA):=⟨rfl,rfl,rfl,by decide +kernel,rfl,by decide +kernel,by decide +kernel⟩
theorem Bh:aU ["steps","marks","forth","backward"] ["steps","marks"] (az pB):=⟨rfl,rfl,rfl,by decide +kernel,rfl,by decide +kernel,by decide +kernel⟩
theorem tJ:aU ["steps","marks","boxes","course","step","box"] ["steps","marks"] (az pC):=⟨rfl,rfl,rfl,by decide +kernel,rfl,by decide +kernel,by decide +kernel⟩
theorem Zw:aU ["one","other"] ["one","other"] (az pE):=⟨rfl,rfl,rfl,by decide +kernel,rfl,by decide +kernel,by decide +kernel⟩
theorem Zx:aU ["one","by"] ["one","by"] (az pF):=⟨rfl,rfl,rfl,by decide +kernel,rfl,by decide +kernel,by decide +kernel⟩
theorem qH:aU ["steps","marks","tops","number","mark","turn"] ["steps","marks"] (az pG):=⟨rfl,rfl,rfl,by decide +kernel,rfl,by decide +kernel,by decide +kernel⟩
theorem wR:aU ["tops","marks","number","mark","top"] ["tops","marks"] (az pH):=⟨rfl,rfl,rfl,by decide +kernel,rfl,by decide +kernel,by decide +kernel⟩
theorem Zy:aU ["board","kind","turn"] ["board","kind","turn"] (az pI):=⟨rfl,rfl,rfl,by decide +kernel,rfl,by decide +kernel,by decide +kernel⟩
theorem OO:aU ["board","claim","part"] ["board","claim"] (az pJ):=⟨rfl,rfl,rfl,by decide +kernel,rfl,by decide +kernel,by decide +kernel⟩
theorem Zz:aU ["claim","kind","turn"] ["claim","kind","turn"] (az pK):=⟨rfl,rfl,rfl,by decide +kernel,rfl,by decide +kernel,by decide +kernel⟩
theorem OP:aU ["board","claim","own"] ["board","claim"] (az pL):=⟨rfl,rfl,rfl,by decide +kernel,rfl,by decide +kernel,by decide +kernel⟩
theorem ZA:aU ["board","claim"] ["board","claim"] (az pM):=⟨rfl,rfl,rfl,by decide +kernel,rfl,by decide +kernel,by decide +kernel⟩
theorem ZC:aU ["board","eye"] ["board","eye"] (az pN):=⟨rfl,rfl,rfl,by decide +kernel,rfl,by decide +kernel,by decide +kernel⟩
theorem ZD:aU ["board","some"] ["board","some"] (az pO):=⟨rfl,rfl,rfl,by decide +kernel,rfl,by decide +kernel,by decide +kernel⟩
theorem ZE:aU ["board"] ["board"] (az pP):=⟨rfl,rfl,rfl,by decide +kernel,rfl,by decide +kernel,by decide +kernel⟩
theorem kj:aU ["steps","groups","found","name","marks","tops","beside","others","pair"] ["steps","groups"] (az pQ):=⟨rfl,rfl,rfl,by decide +kernel,rfl,by decide +kernel,by decide +kernel⟩
theorem ZF:aU ["pairs","eye"] ["pairs","eye"] (az pR):=⟨rfl,rfl,rfl,by decide +kernel,rfl,by decide +kernel,by decide +kernel⟩
theorem ZG:aU ["pair"] ["pair"] (az pS):=⟨rfl,rfl,rfl,by decide +kernel,rfl,by decide +kernel,by decide +kernel⟩
theorem wU:aU ["pairs","most","eye","others"] ["pairs","most"] (az pU):=⟨rfl,rfl,rfl,by decide +kernel,rfl,by decide +kernel,by decide +kernel⟩
theorem ZH:aU ["pairs","eye","most"] ["pairs","eye","most"] (az pV):=⟨rfl,rfl,rfl,by decide +kernel,rfl,by decide +kernel,by decide +kernel⟩
theorem qI:aU ["pairs","most","one","other","first","second"] ["pairs","most"] (az pW):=⟨rfl,rfl,rfl,by decide +kernel,rfl,by decide +kernel,by decide +kernel⟩
theorem qJ:aU ["board","claim","steps","goals","marks","pairs","aside"] ["board","claim"] (az pX):=⟨rfl,rfl,rfl,by decide +kernel,rfl,by decide +kernel,by decide +kernel⟩
theorem ZI:aU ["self","eyes","turns","up","down","most"] ["self","eyes","turns","up","down","most"] (az pY):=⟨rfl,rfl,rfl,by decide +kernel,rfl,by decide +kernel,by decide +kernel⟩
theorem ZJ:aU ["self","eye"] ["self","eye"] (az pZ):=⟨rfl,rfl,rfl,by decide +kernel,rfl,by decide +kernel,by decide +kernel⟩
theorem ZK:aU ["self","turn"] ["self","turn"] (az p8):=⟨rfl,rfl,rfl,by decide +kernel,rfl,by decide +kernel,by decide +kernel⟩
theorem ZL:aU ["self","eye","turn","lo","hi"] ["self","eye","turn","lo","hi"] (az p9):=⟨rfl,rfl,rfl,by decide +kernel,rfl,by decide +kernel,by decide +kernel⟩
theorem ZM:aU ["self","eye","turn"] ["self","eye","turn"] (az qb):=⟨rfl,rfl,rfl,by decide +kernel,rfl,by decide +kernel,by decide +kernel⟩
theorem ZN:aU ["self"] ["self"] (az qc):=⟨rfl,rfl,rfl,by decide +kernel,rfl,by decide +kernel,by decide +kernel⟩
theorem ZO:aU ["self","eye","turn"] ["self","eye","turn"] (az qd):=⟨rfl,rfl,rfl,by decide +kernel,rfl,by decide +kernel,by decide +kernel⟩
theorem ZP:aU ["self","eye","turn"] ["self","eye","turn"] (az qe):=⟨rfl,rfl,rfl,by decide +kernel,rfl,by decide +kernel,by decide +kernel⟩
theorem Bi:aU ["_law_script","_law_k","_law_many","_law_cell"] ["_law_script","_law_k","_law_many"] (az qf):=⟨rfl,rfl,rfl,by decide +kernel,rfl,by decide +kernel,by decide +kernel⟩
theorem Bj:aU ["_law_script","_law_k","_law_many","_law_cell"] ["_law_script","_law_k","_law_many"] (az qg):=⟨rfl,rfl,rfl,by decide +kernel,rfl,by decide +kernel,by decide +kernel⟩
theorem cU:aU ["_law_script","_law_way","_law_eyes","_law_turns","_law_most","_law_far","_law_up","_law_down"] ["_law_script"] (az qh):=⟨rfl,rfl,rfl,by decide +kernel,rfl,by decide +kernel,by decide +kernel⟩
theorem qK:aU ["_law_script","_law_shape_here","_law_size","_law_number","_law_course_here","_law_k"] ["_law_script","_law_shape_here"] (az qi):=⟨rfl,rfl,rfl,by decide +kernel,rfl,by decide +kernel,by decide +kernel⟩
theorem iR:aU ["_law_script","_law_k","_law_far","_law_number","_law_false","_law_by","_law_lo","_law_hi","_law_end"] ["_law_script","_law_k","_law_far","_law_number","_law_false"] (az qj):=⟨rfl,rfl,rfl,by decide +kernel,rfl,by decide +kernel,by decide +kernel⟩
theorem iS:aU ["_law_script","_law_shape_here","_law_course_here","_law_told","_law_dense","_law_limit","_law_eye","_law_false","_law_turn","_law_k"] ["_law_script","_law_shape_here","_law_course_here"] (az qk):=⟨rfl,rfl,rfl,by decide +kernel,rfl,by decide +kernel,by decide +kernel⟩
theorem tL:aU ["_law_script","_law_shape_here","_law_told","_law_board_here","_law_spots","_law_eye","_law_turn"] ["_law_script","_law_shape_here","_law_told"] (az ql):=⟨rfl,rfl,rfl,by decide +kernel,rfl,by decide +kernel,by decide +kernel⟩
theorem iT:aU ["_law_script","_law_shape_here","_law_course_here","_law_parts","_law_j","_law_k","_law_turn","_law_kind","_law_number","_law_false"] ["_law_script","_law_shape_here","_law_course_here"] (az qm):=⟨rfl,rfl,rfl,by decide +kernel,rfl,by decide +kernel,by decide +kernel⟩
theorem ZQ:aU ["_law_span","_law_number"] ["_law_span","_law_number"] (az qo):=⟨rfl,rfl,rfl,by decide +kernel,rfl,by decide +kernel,by decide +kernel⟩
theorem ZR:aU ["_law_found"] ["_law_found"] (az qp):=⟨rfl,rfl,rfl,by decide +kernel,rfl,by decide +kernel,by decide +kernel⟩
theorem qL:aU ["_law_lo","_law_hi","_law_claim_here","_law_kind","_law_turn","_law_sort","_law_at","_law_span"] ["_law_lo","_law_hi","_law_claim_here","_law_kind","_law_turn"] (az qq):=⟨rfl,rfl,rfl,by decide +kernel,rfl,by decide +kernel,by decide +kernel⟩
theorem ZS:aU ["_law_shape_here","_law_claim_here"] ["_law_shape_here","_law_claim_here"] (az qr):=⟨rfl,rfl,rfl,by decide +kernel,rfl,by decide +kernel,by decide +kernel⟩
theorem ZT:aU ["_law_shape_here","_law_claim_here"] ["_law_shape_here","_law_claim_here"] (az qt):=⟨rfl,rfl,rfl,by decide +kernel,rfl,by decide +kernel,by decide +kernel⟩
theorem wV:aU ["_law_told","_law_course_here","_law_eyes","_law_eye","_law_turn"] ["_law_told","_law_course_here"] (az qu):=⟨rfl,rfl,rfl,by decide +kernel,rfl,by decide +kernel,by decide +kernel⟩
theorem qM:aU ["_law_course_here","_law_claim_here","_law_kind","_law_turn","_law_span","_law_number"] ["_law_course_here","_law_claim_here"] (az qv):=⟨rfl,rfl,rfl,by decide +kernel,rfl,by decide +kernel,by decide +kernel⟩
theorem Bk:aU ["_law_found","_law_shape_here","_law_told","_law_claim_here","_law_number","_law_k"] ["_law_found","_law_shape_here","_law_told","_law_claim_here"] (az qw):=⟨rfl,rfl,rfl,by decide +kernel,rfl,by decide +kernel,by decide +kernel⟩
theorem tM:aU ["_law_steps_here","_law_one","_law_other","_law_total","_law_k"] ["_law_steps_here","_law_one","_law_other"] (az qx):=⟨rfl,rfl,rfl,by decide +kernel,rfl,by decide +kernel,by decide +kernel⟩
theorem ZU:aU ["_law_steps_here","_law_one","_law_other"] ["_law_steps_here","_law_one","_law_other"] (az qy):=⟨rfl,rfl,rfl,by decide +kernel,rfl,by decide +kernel,by decide +kernel⟩
theorem ZV:aU ["_law_place","_law_told","_law_goals_here","_law_aside"] ["_law_place","_law_told","_law_goals_here","_law_aside"] (az qz):=⟨rfl,rfl,rfl,by decide +kernel,rfl,by decide +kernel,by decide +kernel⟩
theorem Bl:aU ["_law_paper","_law_told","_law_known","_law_aside","_law_one","_law_other"] ["_law_paper","_law_told","_law_known","_law_aside"] (az qA):=⟨rfl,rfl,rfl,by decide +kernel,rfl,by decide +kernel,by decide +kernel⟩
theorem jB:aU ["_law_paper","_law_told","_law_known","_law_aside","_law_steps_here","_law_goals_here","_law_most","_law_rows","_law_one","_law_other"] ["_law_paper","_law_told","_law_known","_law_aside"] (az qB):=⟨rfl,rfl,rfl,by decide +kernel,rfl,by decide +kernel,by decide +kernel⟩
theorem OQ:aU ["_law_answer","_law_shape_here","_law_told","_law_claim_here","_law_known"] ["_law_answer","_law_shape_here","_law_told","_law_claim_here"] (az qC):=⟨rfl,rfl,rfl,by decide +kernel,rfl,by decide +kernel,by decide +kernel⟩
theorem OR:aU ["_law_board_here","_law_told","_law_spots"] ["_law_board_here","_law_told"] (az qD):=⟨rfl,rfl,rfl,by decide +kernel,rfl,by decide +kernel,by decide +kernel⟩
theorem OS:aU ["_law_script","_law_shape_here","_law_course_here","_law_told","_law_board_here","_law_spot"] ["_law_script","_law_shape_here","_law_course_here","_law_told","_law_board_here"] (az qE):=⟨rfl,rfl,rfl,by decide +kernel,rfl,by decide +kernel,by decide +kernel⟩
theorem ZW:aU ["_law_answer"] ["_law_answer"] (az qF):=⟨rfl,rfl,rfl,by decide +kernel,rfl,by decide +kernel,by decide +kernel⟩
theorem ic:aU ["_law_script","_law_shape_here","_law_course_here","_law_told","_law_claim_here","_law_board_here","_law_handed","_law_first","_law_kept_here","_law_second","_law_third"] ["_law_script"] (az gI):=⟨rfl,rfl,rfl,by decide +kernel,rfl,by decide +kernel,by decide +kernel⟩
set_option genInjectivity false
set_option genSizeOf false
structure Tx (K:ak2) (mg:Str->Option ak3) where
 lP:ala
 Bm:alB
 qN:aT K "is_crossed" "is_crossed" pe lP Bm
 OT:mg "is_crossed" = some (.ref lP)
 wW:Binds K Bm ["lo","hi"] []
 lQ:ala
 Bn:alB
 lR:aT K "meet" "meet" pf lQ Bn
 Bo:mg "meet" = some (.ref lQ)
 tN:Binds K Bn ["one","other"] []
 lS:ala
 Bp:alB
 lT:aT K "common" "common" ph lS Bp
 Bq:mg "common" = some (.ref lS)
 tO:Binds K Bp ["some"] []
 lU:ala
 Br:alB
 qO:aT K "number_in" "number_in" pj lU Br
 OU:mg "number_in" = some (.ref lU)
 wX:Binds K Br ["cell"] []
 lV:ala
 Bs:alB
 qP:aT K "moved" "moved" pq lV Bs
 OV:mg "moved" = some (.ref lV)
 wY:Binds K Bs ["one","step"] []
 lW:ala
 Bu:alB
 qQ:aT K "narrowed" "narrowed" pw lW Bu
 OW:mg "narrowed" = some (.ref lW)
 wZ:Binds K Bu ["boxes","steps"] []
 lX:ala
 Bv:alB
 tP:aT K "stretches_at" "stretches_at" pA lX Bv
 ZX:mg "stretches_at" = some (.ref lX)
 Bw:Binds K Bv ["marks","turn"] []
 lY:ala
 Bx:alB
 tQ:aT K "tube" "tube" pB lY Bx
 ZY:mg "tube" = some (.ref lY)
 By:Binds K Bx ["steps","marks"] []
 lZ:ala
 Bz:alB
 tR:aT K "course_in" "course_in" pC lZ Bz
 ZZ:mg "course_in" = some (.ref lZ)
 BA:Binds K Bz ["steps","marks"] []
 l6:ala
 BB:alB
 l8:aT K "lesser" "lesser" pE l6 BB
 BC:mg "lesser" = some (.ref l6)
 tS:Binds K BB ["one","other"] []
 md:ala
 BD:alB
 qR:aT K "lifted" "lifted" pF md BD
 OX:mg "lifted" = some (.ref md)
 w5:Binds K BD ["one","by"] []
 me:ala
 BE:alB
 tT:aT K "ceilings" "ceilings" pG me BE
 Z0:mg "ceilings" = some (.ref me)
 BF:Binds K BE ["steps","marks"] []
 mf:ala
 BG:alB
 tU:aT K "crossing" "crossing" pH mf BG
 Z1:mg "crossing" = some (.ref mf)
 BH:Binds K BG ["tops","marks"] []
 mh:ala
 BI:alB
 tV:aT K "has_part" "has_part" pI mh BI
 Z2:mg "has_part" = some (.ref mh)
 BJ:Binds K BI ["board","kind","turn"] []
 mi:ala
 BK:alB
 qS:aT K "check_claim" "check_claim" pJ mi BK
 OY:mg "check_claim" = some (.ref mi)
 w6:Binds K BK ["board","claim"] []
 mj:ala
 BL:alB
 qT:aT K "stretches_of" "stretches_of" pK mj BL
 OZ:mg "stretches_of" = some (.ref mj)
 w9:Binds K BL ["claim","kind","turn"] []
 mn:ala
 BM:alB
 tW:aT K "paces" "paces" pL mn BM
 Z3:mg "paces" = some (.ref mn)
 BN:Binds K BM ["board","claim"] []
 mq:ala
 BO:alB
 tX:aT K "wanted" "wanted" pM mq BO
 Z4:mg "wanted" = some (.ref mq)
 BP:Binds K BO ["board","claim"] []
 mr:ala
 BQ:alB
 tY:aT K "marks_of" "marks_of" pN mr BQ
 Z5:mg "marks_of" = some (.ref mr)
 BR:Binds K BQ ["board","eye"] []
 mv:ala
 BS:alB
 tZ:aT K "marks_without" "marks_without" pO mv BS
 Z6:mg "marks_without" = some (.ref mv)
 BV:Binds K BS ["board","some"] []
 mw:ala
 BW:alB
 t4:aT K "groups_of" "groups_of" pP mw BW
 Z7:mg "groups_of" = some (.ref mw)
 BX:Binds K BW ["board"] []
 mx:ala
 BY:alB
 t6:aT K "clashes" "clashes" pQ mx BY
 Z8:mg "clashes" = some (.ref mx)
 BZ:Binds K BY ["steps","groups"] []
 my:ala
 B0:alB
 qU:aT K "without" "without" pR my B0
 O0:mg "without" = some (.ref my)
 xa:Binds K B0 ["pairs","eye"] []
 mz:ala
 B3:alB
 t7:aT K "eyes_of" "eyes_of" pS mz B3
 Z9:mg "eyes_of" = some (.ref mz)
 B4:Binds K B3 ["pair"] []
 km:ala
 xb:alB
 mC:aT K "put_aside" "put_aside" pU km xb
 O2:mg "put_aside" = some (.ref km)
 xf:Binds K xb ["pairs","most"] []
 mD:ala
 B5:alB
 qV:aT K "branch" "branch" pV mD B5
 O3:mg "branch" = some (.ref mD)
 xg:Binds K B5 ["pairs","eye","most"] []
 jC:ala
 t8:alB
 mE:aT K "paper" "paper" pW jC t8
 O4:mg "paper" = some (.ref jC)
 xh:Binds K t8 ["pairs","most"] []
 mF:ala
 B6:alB
 jD:aT K "ask" "ask" pX mF B6
 t9:mg "ask" = some (.ref mF)
 mG:Binds K B6 ["board","claim"] []
 mH:ala
 B7:alB
 xi:aT K "__init__" "Board.__init__" pY mH B7
 B8:Binds K B7 ["self","eyes","turns","up","down","most"] []
 mI:ala
 B9:alB
 xj:aT K "has_eye" "Board.has_eye" pZ mI B9
 Ca:Binds K B9 ["self","eye"] []
 mJ:ala
 Cb:alB
 xk:aT K "has_turn" "Board.has_turn" p8 mJ Cb
 qW:Binds K Cb ["self","turn"] []
 mK:ala
 Cc:alB
 xm:aT K "tell" "Board.tell" p9 mK Cc
 xn:Binds K Cc ["self","eye","turn","lo","hi"] []
 mL:ala
 Cd:alB
 xo:aT K "hush" "Board.hush" qb mL Cd
 Ce:Binds K Cd ["self","eye","turn"] []
 mM:ala
 Cf:alB
 xq:aT K "tellings" "Board.tellings" qc mM Cf
 ua:Binds K Cf ["self"] []
 mO:ala
 Cg:alB
 xr:aT K "check_spot" "Board.check_spot" qd mO Cg
 Ci:Binds K Cg ["self","eye","turn"] []
 mP:ala
 Cj:alB
 xt:aT K "check_word" "Board.check_word" qe mP Cj
 Ck:Binds K Cj ["self","eye","turn"] []
 mQ:ala
 Cm:alB
 bO:aT K "_law_pick" "_law_pick" qf mQ Cm
 b9:mg "_law_pick" = some (.ref mQ)
 bX:Binds K Cm ["_law_script","_law_k","_law_many"] []
 mR:ala
 Cn:alB
 mS:aT K "_law_wide" "_law_wide" qg mR Cn
 Co:mg "_law_wide" = some (.ref mR)
 uc:Binds K Cn ["_law_script","_law_k","_law_many"] []
 mT:ala
 Cp:alB
 ud:aT K "_law_shape" "_law_shape" qh mT Cp
 aaa:mg "_law_shape" = some (.ref mT)
 Cq:Binds K Cp ["_law_script"] []
 mU:ala
 Cr:alB
 ue:aT K "_law_course" "_law_course" qi mU Cr
 aab:mg "_law_course" = some (.ref mU)
 Cs:Binds K Cr ["_law_script","_law_shape_here"] []
 mV:ala
 Ct:alB
 mW:aT K "_law_word" "_law_word" qj mV Ct
 Cu:mg "_law_word" = some (.ref mV)
 uf:Binds K Ct ["_law_script","_law_k","_law_far","_law_number","_law_false"] []
 mX:ala
 Cv:alB
 ug:aT K "_law_words" "_law_words" qk mX Cv
 aac:mg "_law_words" = some (.ref mX)
 Cw:Binds K Cv ["_law_script","_law_shape_here","_law_course_here"] []
 mY:ala
 Cy:alB
 uh:aT K "_law_board" "_law_board" ql mY Cy
 aad:mg "_law_board" = some (.ref mY)
 Cz:Binds K Cy ["_law_script","_law_shape_here","_law_told"] []
 mZ:ala
 CA:alB
 ui:aT K "_law_claim" "_law_claim" qm mZ CA
 aae:mg "_law_claim" = some (.ref mZ)
 CB:Binds K CA ["_law_script","_law_shape_here","_law_course_here"] []
 m5:ala
 CC:alB
 qX:aT K "_law_in" "_law_in" qo m5 CC
 O5:mg "_law_in" = some (.ref m5)
 xu:Binds K CC ["_law_span","_law_number"] []
 m6:ala
 CD:alB
 ko:aT K "_law_whole" "_law_whole" qp m6 CD
 xy:mg "_law_whole" = some (.ref m6)
 qY:Binds K CD ["_law_found"] []
 m8:ala
 CF:alB
 qZ:aT K "_law_common" "_law_common" qq m8 CF
 O6:mg "_law_common" = some (.ref m8)
 xA:Binds K CF ["_law_lo","_law_hi","_law_claim_here","_law_kind","_law_turn"] []
 m9:ala
 CG:alB
 uj:aT K "_law_steps" "_law_steps" qr m9 CG
 aaf:mg "_law_steps" = some (.ref m9)
 CH:Binds K CG ["_law_shape_here","_law_claim_here"] []
 nc:ala
 CI:alB
 uk:aT K "_law_goals" "_law_goals" qt nc CI
 aag:mg "_law_goals" = some (.ref nc)
 CJ:Binds K CI ["_law_shape_here","_law_claim_here"] []
 ng:ala
 CK:alB
 um:aT K "_law_liars" "_law_liars" qu ng CK
 aah:mg "_law_liars" = some (.ref ng)
 CL:Binds K CK ["_law_told","_law_course_here"] []
 nh:ala
 CM:alB
 uq:aT K "_law_met" "_law_met" qv nh CM
 aai:mg "_law_met" = some (.ref nh)
 CN:Binds K CM ["_law_course_here","_law_claim_here"] []
 ni:ala
 CO:alB
 ur:aT K "_law_walked" "_law_walked" qw ni CO
 aaj:mg "_law_walked" = some (.ref ni)
 CP:Binds K CO ["_law_found","_law_shape_here","_law_told","_law_claim_here"] []
 nj:ala
 CQ:alB
 uu:aT K "_law_rise" "_law_rise" qx nj CQ
 aak:mg "_law_rise" = some (.ref nj)
 CS:Binds K CQ ["_law_steps_here","_law_one","_law_other"] []
 nk:ala
 CT:alB
 uv:aT K "_law_clash" "_law_clash" qy nk CT
 aal:mg "_law_clash" = some (.ref nk)
 CU:Binds K CT ["_law_steps_here","_law_one","_law_other"] []
 nq:ala
 CV:alB
 q8:aT K "_law_mark" "_law_mark" qz nq CV
 O7:mg "_law_mark" = some (.ref nq)
 xB:Binds K CV ["_law_place","_law_told","_law_goals_here","_law_aside"] []
 nr:ala
 CW:alB
 uw:aT K "_law_beyond" "_law_beyond" qA nr CW
 aam:mg "_law_beyond" = some (.ref nr)
 CY:Binds K CW ["_law_paper","_law_told","_law_known","_law_aside"] []
 jE:ala
 ux:alB
 kr:aT K "_law_refutes" "_law_refutes" qB jE ux
 CZ:mg "_law_refutes" = some (.ref jE)
 uy:Binds K ux ["_law_paper","_law_told","_law_known","_law_aside"] []
 nu:ala
 C0:alB
 jF:aT K "_law_right" "_law_right" qC nu C0
 uz:mg "_law_right" = some (.ref nu)
 nv:Binds K C0 ["_law_answer","_law_shape_here","_law_told","_law_claim_here"] []
 ny:ala
 C1:alB
 uA:aT K "_law_same" "_law_same" qD ny C1
 aan:mg "_law_same" = some (.ref ny)
 C2:Binds K C1 ["_law_board_here","_law_told"] []
 nz:ala
 C3:alB
 uB:aT K "_law_deed" "_law_deed" qE nz C3
 aao:mg "_law_deed" = some (.ref nz)
 C4:Binds K C3 ["_law_script","_law_shape_here","_law_course_here","_law_told","_law_board_here"] []
 nA:ala
 C5:alB
 uC:aT K "_law_kept" "_law_kept" qF nA C5
 aap:mg "_law_kept" = some (.ref nA)
 C6:Binds K C5 ["_law_answer"] []
 jG:ala
 xC:alB
 xD:aT K "law" "law" gI jG xC
 akW:mg "law" = some (.ref jG)
 O8:Binds K xC ["_law_script"] []
 aaq:mg "bool" = none
 xE:mg "enumerate" = none
 aar:mg "int" = none
 q9:mg "isinstance" = none
 dr:mg "len" = none
 nB:mg "list" = none
 O9:mg "max" = none
 rd:mg "min" = none
 fe:mg "range" = none
 aas:mg "reversed" = none
 aat:mg "set" = none
 C7:mg "sorted" = none
 C8:mg "tuple" = none
 aau:mg "zip" = none
 xF:ala
 akX:mg "GazeError" = some (.ref xF)
 f7:ala
 C9:mg "NoBoard" = some (.ref f7)
 eE:ala
 Dc:mg "NoTelling" = some (.ref eE)
 fF:ala
 aav:mg "NoClaim" = some (.ref fF)
 aQ:ala
 aaw:mg "Board" = some (.ref aQ)
 bP:fQ K aQ
 nC:fj K aQ "eyes"
 ku:fj K aQ "turns"
 rf:fj K aQ "up"
 rg:fj K aQ "down"
 nD:fj K aQ "most"
 iU:fj K aQ "told"
 uD:Mk K aQ mH
 aax:Meth K aQ "has_eye" mI
 xG:Meth K aQ "has_turn" mJ
 Pb:Meth K aQ "tell" mK
 aay:Meth K aQ "hush" mL
 Dd:Meth K aQ "tellings" mM
 aaz:Meth K aQ "check_spot" mO
 aaA:Meth K aQ "check_word" mP
 De:XC K f7
 Df:XC K eE
 aaB:XC K fF
 aaC:∃ t,mg "EYES_AT_MOST" = some (.int 7 t)
 aaD:∃ t,mg "TURNS_AT_MOST" = some (.int 12 t)
set_option genInjectivity true
set_option genSizeOf true
section
seal L2.PE L2.PS L2.bw L2.PA
variable {P:alr} {w:alS} {K:ak2} {mg:Str->Option ak3} {base:amH}
inductive aaE (K:ak2) (vs:List V) (H:Hp) (Q:VK) (a8:XK):Prop
 | mk (a:ala) (ns:List Int) (k m:Int) (_:vs=[.ref a,.int k,.int m]) (_:ah K H a (ns.map V.int)) (_:fu ns) (_:(-1000000<=k/\k<=1000000)) (_:0<m) (_:∀ p:Int,0<=p->p<m->Q (.int p) H)
theorem cb (T:Tx K mg):aL P w K mg base (aM P w) 1 T.mQ T.Cm ["_law_script","_law_k","_law_many"] (aaE K):=by
 refine okN T.bO Bi (fun vs H Q E h=>?_) (fun aI A outer s H vs Q E hr h=>?_)
 ·obtain⟨a,ns,k,m,rfl,_⟩:=h
  rfl
 ·obtain⟨a,ns,k,m,rfl,hS,hn,hk,hm,q⟩:=h
  refine⟨_,(aq (aD (i:=3) Bi.nd rfl (als rfl) af)
  (aq (aN (ib (bI dA (by rfl) T.dr df (ae (aa 0) ag)) af) (ar (aD (i:=3) Bi.nd rfl (als rfl) (aw (aa 0) (aE jA (aa 1) (bI dA (by rfl) T.dr df (ae (aa 0) ag)))))) aO)
  (ar (aG (aE jA (aE jA (aE jA (aE tI (aE bc (aa 3) af) (aE bc (aE bc (aa 3) af) (aE tI (aa 1) (aa 1)))) af) af) (aa 2)))))),?_⟩
  walk_at "gz"
  refine⟨_,d9 hS,?_⟩
  rw[ak8]
  have pm:=V1 hn hk
  have fin:∀ x:Int,Q (.int (x % 2147483629 % 999983 % m)) H:=fun x=>q _ (aqI _ (by lia)) (apz _ hm)
  split
  ·rename_i h
   refine⟨_,d9 hS,?_⟩
   rw[ak8]
   refine⟨h,aP hS (Mx h) ?_⟩
   walk_at "gz"
   exact⟨pm.1,pm.2,hm,fin _⟩
  ·rename_i h
   have e:fv ns k=0:=if_neg h
   rw[e] at pm
   exact⟨pm.1,pm.2,hm,fin _⟩
inductive aaF (K:ak2) (vs:List V) (H:Hp) (Q:VK) (a8:XK):Prop
 | mk (a:ala) (ns:List Int) (k m:Int) (_:vs=[.ref a,.int k,.int m]) (_:ah K H a (ns.map V.int)) (_:fu ns) (_:(-1000000<=k/\k<=1000000)) (_:0<m) (_:∀ p:Int,0<=p->p<m->Q (.int p) H)
theorem Dg (T:Tx K mg):aL P w K mg base (aM P w) 2 T.mR T.Cn ["_law_script","_law_k","_law_many"] (aaF K):=by
 refine okN T.mS Bj (fun vs H Q E h=>?_) (fun aI A outer s H vs Q E hr h=>?_)
 ·obtain⟨a,ns,k,m,rfl,_⟩:=h
  rfl
 ·obtain⟨a,ns,k,m,rfl,hS,hn,hk,hm,q⟩:=h
  refine⟨_,(aq (aD (i:=3) Bj.nd rfl (als rfl) af)
  (aq (aN (ib (bI dA (by rfl) T.dr df (ae (aa 0) ag)) af) (ar (aD (i:=3) Bj.nd rfl (als rfl) (aw (aa 0) (aE jA (aa 1) (bI dA (by rfl) T.dr df (ae (aa 0) ag)))))) aO)
  (ar (aG (aE jA (aE bc (aF (cb T) hr T.b9 T.bO T.bX aB (ae (aa 0) (ae (aa 1) (ae af ag)))) (aE tI (aE tI (aE tI af (aa 3)) (aa 3)) (aa 3))) (aa 2)))))),?_⟩
  walk_at "gz"
  refine⟨_,d9 hS,?_⟩
  rw[ak8]
  have pm:=V2 hn k
  have fin:∀ x:Int,Q (.int (x % m)) H:=fun x=>q _ (aqI _ (by lia)) (apz _ hm)
  split
  ·rename_i h
   refine⟨_,d9 hS,?_⟩
   rw[ak8]
   refine⟨h,aP hS (Mx h) ?_⟩
   walk_at "gz"
   refine⟨a,ns,k,999983,rfl,hS,hn,hk,by decide,fun p _ _=>?_⟩
   walk_at "gz"
   exact⟨pm.1,pm.2.1,pm.2.2,hm,fin _⟩
  ·rename_i h
   have e:fv ns k=0:=if_neg h
   rw[e] at pm
   refine⟨a,ns,k,999983,rfl,hS,hn,hk,by decide,fun p _ _=>?_⟩
   walk_at "gz"
   exact⟨pm.1,pm.2.1,pm.2.2,hm,fin _⟩
inductive aaG (vs:List V) (H:Hp) (Q:VK) (a8:XK):Prop
 | mk (v:V) (_:vs=[v]) (_:(v = .non ∨ ∃ i,v = .int i)) (_:Q (.bl (isWhole v)) H)
theorem xH (T:Tx K mg):aL P w K mg base (aM P w) 1 T.m6 T.CD ["_law_found"] aaG:=by
 refine okN T.ko ZR (fun vs H Q E h=>?_) (fun aI A outer s H vs Q E hr h=>?_)
 ·obtain⟨v,rfl,_⟩:=h
  rfl
 ·obtain⟨v,rfl,hv,q⟩:=h
  refine⟨_,(ar (aG (iQ (bI oy (by rfl) T.q9 ox (ae (aa 0) (ae (nY (v:=.ty "int") rfl T.aar Uv rfl) ag))) (i3 (Zs (bI oy (by rfl) T.q9 ox (ae (aa 0) (ae (nY (v:=.ty "bool") rfl T.aaq Uw rfl) ag)))))))),?_⟩
  rcases hv with rfl|⟨i,rfl⟩
  ·walk_at "gz"
   exact q
  ·walk_at "gz"
   exact q
inductive aaH (vs:List V) (H:Hp) (Q:VK) (a8:XK):Prop
 | mk (a b:En) (_:vs=[ev a,ev b]) (_:Q (.bl (aY a b)) H)
theorem Pc (T:Tx K mg):aL P w K mg base (aM P w) 1 T.lP T.Bm ["lo","hi"] aaH:=by
 refine okN T.qN Zt (fun vs H Q E h=>?_) (fun aI A outer s H vs Q E hr h=>?_)
 ·obtain⟨a,b,rfl,_⟩:=h
  rfl
 ·obtain⟨a,b,rfl,q⟩:=h
  refine⟨_,(ar (aG (iQ (rN (yD (aa 0))) (iQ (rN (yD (aa 1))) (i3 (gP (lN vB) (aa 0) (aa 1) (dW _))))))),?_⟩
  rcases a with _|x
  ·walk_at "gz"
   exact q
  rcases b with _|y
  ·walk_at "gz"
   exact q
  walk_at "gz"
  exact q
inductive aaI (vs:List V) (H:Hp) (Q:VK) (a8:XK):Prop
 | mk (v u:V) (a b c d:En) (_:vs=[v,u]) (_:aV H v a b) (_:aV H u c d) (_:∀ x H',ak H H'->Me H' x (cX a c) (cY b d)->Q x H')
theorem Dh (T:Tx K mg):aL P w K mg base (aM P w) 2 T.lQ T.Bn ["one","other"] aaI:=by
 refine okN T.lR Bf (fun vs H Q E h=>?_) (fun aI A outer s H vs Q E hr h=>?_)
 ·obtain⟨v,u,a,b,c,d,rfl,_⟩:=h
  rfl
 ·obtain⟨v,u,a,b,c,d,rfl,⟨p,rfl,hp⟩,⟨r,rfl,cz⟩,q⟩:=h
  refine⟨_,(aq (aD (i:=2) Bf.nd rfl (als rfl) (Va rfl rfl T.O9 (fq (di.mk (fr:=[]) (ys:=[]) rfl (by decide +kernel) rfl (by decide +kernel) rfl rfl .nil .nil (by decide) rfl) rfl (yK (bg (ae (aw (aa 0) af) (ae (aw (aa 1) af) ag)))) (fun C s2 H2 ex pn=>⟨(jV (dE (aa 0))),(aa 0)⟩)) bR))
  (aq (aD (i:=3) Bf.nd rfl (als rfl) (Vb rfl rfl T.rd (fq (di.mk (fr:=[]) (ys:=[]) rfl (by decide +kernel) rfl (by decide +kernel) rfl rfl .nil .nil (by decide) rfl) rfl (yK (bg (ae (aw (aa 0) af) (ae (aw (aa 1) af) ag)))) (fun C s2 H2 ex pn=>⟨(jV (dE (aa 0))),(aa 0)⟩)) bR))
  (aq (aN (cT (aF (Pc T) hr T.OT T.qN T.wW aB (ae (aa 2) (ae (aa 3) ag)))) (ar (aG bR)) aO)
  (ar (aG (bg (ae (aa 2) (ae (aa 3) ag)))))))),?_⟩
  walk_at "gz"
  refine aA (aj.of hp) rfl (aA (aj.of cz) rfl ?_)
  walk_at "gz"
  refine⟨bq,fun t ht=>⟨⟨_,aj.of au⟩,Mf au (fun x H Q h=>?_) (fun x H Q h=>?_) fun l hl=>?_⟩⟩
  ·walk_at "gz"
   exact Ox (Q:=fun k=>Q k H) h
  ·walk_at "gz"
   exact h
  refine⟨l,rfl,nums a c,ah.of au,?_⟩
  rw[Vo]
  have s2:=(ax (o:=.tup [ev a,ev c]) ht).trans (ax (o:=.lst ((nums a c).map V.int)) hl)
  generalize upd (upd H t (.tup [ev a,ev c])) l (.lst ((nums a c).map V.int))=H2 at s2 ⊢
  refine aA (aj.of (s2 _ _ hp)) rfl (aA (aj.of (s2 _ _ cz)) rfl ?_)
  walk_at "gz"
  refine⟨bq,fun t' ht'=>⟨⟨_,aj.of au⟩,Mf au (fun x H Q h=>?_) (fun x H Q h=>?_) fun l' lH=>?_⟩⟩
  ·walk_at "gz"
   exact Ox (Q:=fun k=>Q k H) h
  ·walk_at "gz"
   exact h
  refine⟨l',rfl,nums b d,ah.of au,?_⟩
  rw[Vp]
  have s3:=s2.trans ((ax (o:=.tup [ev b,ev d]) ht').trans (ax (o:=.lst ((nums b d).map V.int)) lH))
  generalize upd (upd H2 t' (.tup [ev b,ev d])) l' (.lst ((nums b d).map V.int))=H3 at s3 ⊢
  refine⟨_,_,rfl,?_⟩
  cases hc:aY (cX a c) (cY b d) with
  | true =>
   walk_at "gz"
   exact q _ _ s3 ⟨fun _=>rfl,fun z=>nomatch hc.symm.trans z⟩
  | false =>
   walk_at "gz"
   exact⟨bq,fun p' cn=>q _ _ (s3.trans (ax cn)) ⟨fun z=>(nomatch hc.symm.trans z),fun _=>aV.new⟩⟩
noncomputable def gb (e t u d m:Int):Prop:=(1<=e/\e<=7)/\(1<=t/\t<=12)/\0<=u/\0<=d/\0<=m/\m<=e
noncomputable def xI (e t u d m:Int) (p:ala):List (Str × V):=[("eyes",.int e),("turns",.int t),("up",.int u),("down",.int d),("most",.int m),("told",.ref p)]
inductive aaJ (B C:ala) (vs:List V) (H:Hp) (Q:VK) (E:XK):Prop
 | mk (x dx:ala) (e t u d m:Int) (_:vs=[.ref x,.int e,.int t,.int u,.int d,.int m]) (_:H x=some (.ins B dx [])) (_:(¬ gb e t u d m->E (.ref C) none H)) (_:(gb e t u d m->∀ p H',H p=none->SameBut x H H'->H' x=some (.ins B dx (xI e t u d m p))->H' p=some (.dT [])->Q .non H'))
theorem aaK (T:Tx K mg):aL P w K mg base (aM P w) 1 T.mH T.B7 ["self","eyes","turns","up","down","most"] (aaJ T.aQ T.f7):=by
 refine je T.xi ZI (fun vs H Q E h=>?_) (fun aI A outer s H vs Q E hr h=>?_)
 ·obtain⟨x,dx,e,t,u,d,m,rfl,_⟩:=h
  rfl
 ·obtain⟨x,dx,e,t,u,d,m,rfl,hx,q0,q⟩:=h
  refine⟨_,(aq (aN (PW.pt (cp (cL (wN gn gn af (aa 1) (MX T.aaC rfl))) (dc (cL (wN gn gn af (aa 2) (MX T.aaD rfl)))))) (ar (kS kT rfl T.C9 T.De rfl (ae bH ag))) aO)
  (aq (aN (PW.pt (cp (ki (aa 3) af) (dc (ki (aa 4) af)))) (ar (kS kT rfl T.C9 T.De rfl (ae bH ag))) aO)
  (aq (aN (cL (wN gn gn af (aa 5) (aa 1))) (ar (kS kT rfl T.C9 T.De rfl (ae bH ag))) aO)
  (aq (pd (aa 0) (aa 1) rfl)
  (aq (pd (aa 0) (aa 2) rfl)
  (aq (pd (aa 0) (aa 3) rfl)
  (aq (pd (aa 0) (aa 4) rfl)
  (aq (pd (aa 0) (aa 5) rfl)
  (ar (pd (aa 0) MW rfl)))))))))),?_⟩
  walk_at "gz"
  have no:∀ D σ,¬ gb e t u d m->∀ x,Lz T.f7 E (yV (tC (.str x)) vE) D σ H:=fun D σ z x=>⟨by show 1<=alI;decide,q0 z⟩
  refine bb (fun h1=>bb (fun h2=>?_) fun h2=>no _ _ (fun z=>by unfold gb at z;lia) _) fun h1=>no _ _ (fun z=>by unfold gb at z;lia) _
  refine bb (fun h3=>bb (fun h4=>?_) fun h4=>no _ _ (fun z=>by unfold gb at z;lia) _) fun h3=>no _ _ (fun z=>by unfold gb at z;lia) _
  refine bb (fun h5=>no _ _ (fun z=>by unfold gb at z;lia) _) fun h5=>bb (fun h6=>no _ _ (fun z=>by unfold gb at z;lia) _) fun h6=>?_
  refine bb (fun h7=>bb (fun h8=>?_) fun h8=>no _ _ (fun z=>by unfold gb at z;lia) _) fun h7=>no _ _ (fun z=>by unfold gb at z;lia) _
  replace q:=q (by unfold gb;lia)
  refine⟨_,_,_,hx,T.bP,T.nC,(by show 0<1000;decide),_,_,_,au,T.bP,T.ku,(by show 1<1000;decide),_,_,_,au,T.bP,T.rf,(by show 2<1000;decide),_,_,_,au,T.bP,T.rg,(by show 3<1000;decide),_,_,_,au,T.bP,T.nD,(by show 4<1000;decide),?_⟩
  rw[ve,ve,ve,ve]
  intro p hp
  have Pd:p≠x:=fun z=>by rw[z,au] at hp;cases hp
  refine⟨_,_,_,(ax hp) _ _ au,T.bP,T.iU,(by show 5<1000;decide),q p _ (by rw[aH Pd] at hp;exact hp) (fun b o hb e=>?_) au ?_⟩
  ·rw[aH hb]
   exact (ax hp) _ _ (by rw[aH hb];exact e)
  ·rw[aH Pd,au]
structure fG (B:ala) (H:Hp) (x:ala) (e t u d m:Int) (p:ala) (kvs:List (List Key × V)):Prop where
 ob:∃ dx,H x=some (.ins B dx (xI e t u d m p))
 tb:H p=some (.dT kvs)
theorem fG.same {B:ala} {H H':Hp} {x p:ala} {e t u d m:Int} {kvs:List (List Key × V)} (h:fG B H x e t u d m p kvs) (s:ak H H'):fG B H' x e t u d m p kvs:=let ⟨⟨dx,a⟩,b⟩:=h;⟨⟨dx,s _ _ a⟩,s _ _ b⟩
inductive aaL (B:ala) (vs:List V) (H:Hp) (Q:VK) (a8:XK):Prop
 | mk (x p:ala) (e t u d m i:Int) (kvs:List (List Key × V)) (_:vs=[.ref x,.int i]) (_:fG B H x e t u d m p kvs) (_:Q (.bl (decide (0<=i/\i<e))) H)
inductive aaM (B:ala) (vs:List V) (H:Hp) (Q:VK) (a8:XK):Prop
 | mk (x p:ala) (e t u d m i:Int) (kvs:List (List Key × V)) (_:vs=[.ref x,.int i]) (_:fG B H x e t u d m p kvs) (_:Q (.bl (decide (0<=i/\i<t))) H)
theorem aaN (T:Tx K mg):aL P w K mg base (aM P w) 1 T.mI T.B9 ["self","eye"] (aaL T.aQ):=by
 refine okN T.xj ZJ (fun vs H Q E h=>?_) (fun aI A outer s H vs Q E hr h=>?_)
 ·obtain⟨x,p,e,t,u,d,m,i,kvs,rfl,_⟩:=h
  rfl
 ·obtain⟨x,p,e,t,u,d,m,i,kvs,rfl,⟨⟨dx,hx⟩,hp⟩,q⟩:=h
  refine⟨_,(ar (aG (yS gn rX af (aa 1) (fE rfl (aa 0) rfl)))),?_⟩
  walk_at "gz"
  refine bb (fun h1=>?_) fun h1=>?_
  ·refine⟨_,_,_,hx,T.bP,T.nC,_,rfl,?_⟩
   walk_at "gz"
   rw[show decide (0<=i/\i<e)=decide (i<e) by simp[h1]] at q
   exact q
  ·rw[show decide (0<=i/\i<e)=false by simp[h1]] at q
   exact q
theorem xJ (T:Tx K mg):aL P w K mg base (aM P w) 1 T.mJ T.Cb ["self","turn"] (aaM T.aQ):=by
 refine okN T.xk ZK (fun vs H Q E h=>?_) (fun aI A outer s H vs Q E hr h=>?_)
 ·obtain⟨x,p,e,t,u,d,m,i,kvs,rfl,_⟩:=h
  rfl
 ·obtain⟨x,p,e,t,u,d,m,i,kvs,rfl,⟨⟨dx,hx⟩,hp⟩,q⟩:=h
  refine⟨_,(ar (aG (yS gn rX af (aa 1) (fE rfl (aa 0) rfl)))),?_⟩
  walk_at "gz"
  refine bb (fun h1=>?_) fun h1=>?_
  ·refine⟨_,_,_,hx,T.bP,T.ku,_,rfl,?_⟩
   walk_at "gz"
   rw[show decide (0<=i/\i<t)=decide (i<t) by simp[h1]] at q
   exact q
  ·rw[show decide (0<=i/\i<t)=false by simp[h1]] at q
   exact q
inductive aaO (B C:ala) (vs:List V) (H:Hp) (Q:VK) (E:XK):Prop
 | mk (x p:ala) (e t u d m i j:Int) (kvs:List (List Key × V)) (_:vs=[.ref x,.int i,.int j]) (_:fG B H x e t u d m p kvs) (_:(¬ ((0<=i/\i<e)/\0<=j/\j<t)->E (.ref C) none H)) (_:((0<=i/\i<e)/\0<=j/\j<t->Q .non H))
theorem aaP (T:Tx K mg):aL P w K mg base (aM P w) 2 T.mO T.Cg ["self","eye","turn"] (aaO T.aQ T.eE):=by
 refine je T.xr ZO (fun vs H Q E h=>?_) (fun aI A outer s H vs Q E hr h=>?_)
 ·obtain⟨x,p,e,t,u,d,m,i,j,kvs,rfl,_⟩:=h
  rfl
 ·obtain⟨x,p,e,t,u,d,m,i,j,kvs,rfl,hb,q0,q⟩:=h
  refine⟨_,(ar (aN (PW.pt (cp (cL (cT (iy (aa 0) T.bP T.aax (aaN T) (hr.mono (by decide)) T.Ca .nil aB (ae (aa 1) ag)))) (dc (cL (cT (iy (aa 0) T.bP T.xG (xJ T) (hr.mono (by decide)) T.qW .nil aB (ae (aa 2) ag))))))) (ar (kS kT rfl T.Dc T.Df rfl (ae bH ag))) aO)),?_⟩
  obtain⟨⟨dx,hx⟩,hp⟩:=id hb
  walk_at "gz"
  refine⟨_,_,hx,rfl,x,p,e,t,u,d,m,i,kvs,rfl,hb,?_⟩
  by_cases h1:0<=i/\i<e
  ·rw[decide_eq_true h1]
   walk_at "gz"
   refine⟨_,_,hx,rfl,x,p,e,t,u,d,m,j,kvs,rfl,hb,?_⟩
   by_cases h2:0<=j/\j<t
   ·rw[decide_eq_true h2]
    walk_at "gz"
    exact q ⟨h1,h2⟩
   ·rw[decide_eq_false h2]
    walk_at "gz"
    exact⟨by decide,q0 fun z=>h2 z.2⟩
  ·rw[decide_eq_false h1]
   walk_at "gz"
   exact⟨by decide,q0 fun z=>h1 z.1⟩
inductive aaQ (B C:ala) (vs:List V) (H:Hp) (Q:VK) (E:XK):Prop
 | mk (x p:ala) (e t u d m i j:Int) (kvs:List (List Key × V)) (_:vs=[.ref x,.int i,.int j]) (_:fG B H x e t u d m p kvs) (_:(bF kvs (aZ i j)=none->∀ H',ak H H'->E (.ref C) none H')) (_:(∀ v,bF kvs (aZ i j)=some v->∀ H',ak H H'->Q .non H'))
theorem aaR (T:Tx K mg):aL P w K mg base (aM P w) 1 T.mP T.Cj ["self","eye","turn"] (aaQ T.aQ T.eE):=by
 refine je T.xt ZP (fun vs H Q E h=>?_) (fun aI A outer s H vs Q E hr h=>?_)
 ·obtain⟨x,p,e,t,u,d,m,i,j,kvs,rfl,_⟩:=h
  rfl
 ·obtain⟨x,p,e,t,u,d,m,i,j,kvs,rfl,hb,q0,q⟩:=h
  refine⟨_,(ar (aN (rO (Lr (cQ hr) (bg (ae (aa 1) (ae (aa 2) ag))) (fE rfl (aa 0) rfl))) (ar (kS kT rfl T.Dc T.Df rfl (ae bH ag))) aO)),?_⟩
  obtain⟨⟨dx,hx⟩,hp⟩:=id hb
  walk_at "gz"
  refine⟨bq,fun k hk=>⟨_,_,_,(ax hk) _ _ hx,T.bP,T.iU,_,rfl,p,rfl,bF kvs (aZ i j),cu.t (k:=aZ i j) ((ax hk) _ _ hp) au,?_⟩⟩
  cases hv:bF kvs (aZ i j) with
  | none=>exact⟨by decide,q0 hv _ (ax hk)⟩
  | some v=>exact q v hv _ (ax hk)
inductive Di (B C:ala) (vs:List V) (H:Hp) (Q:VK) (E:XK):Prop
 | mk (x p:ala) (e t u d m i j:Int) (lo hi:En) (kvs:List (List Key × V)) (_:vs=[.ref x,.int i,.int j,ev lo,ev hi]) (_:fG B H x e t u d m p kvs) (_:kvs.length<1000) (_:(¬ (((0<=i/\i<e)/\0<=j/\j<t)/\aY lo hi=false)->E (.ref C) none H)) (_:(((0<=i/\i<e)/\0<=j/\j<t)/\aY lo hi=false->∀ v H',SameBut p H H'->H' p=some (.dT (putK kvs (aZ i j) v))->aV H' v lo hi->Q .non H'))
theorem Pe (T:Tx K mg):aL P w K mg base (aM P w) 3 T.mK T.Cc ["self","eye","turn","lo","hi"] (Di T.aQ T.eE):=by
 refine je T.xm ZL (fun vs H Q E h=>?_) (fun aI A outer s H vs Q E hr h=>?_)
 ·obtain⟨x,p,e,t,u,d,m,i,j,lo,hi,kvs,rfl,_⟩:=h
  rfl
 ·obtain⟨x,p,e,t,u,d,m,i,j,lo,hi,kvs,rfl,hb,hl,q0,q⟩:=h
  refine⟨_,(aq (dw (iy (aa 0) T.bP T.aaz (aaP T) (hr.mono (by decide)) T.Ci .nil oA (ae (aa 1) (ae (aa 2) ag))))
  (aq (aN (cT (aF (Pc T) hr T.OT T.qN T.wW aB (ae (aa 3) (ae (aa 4) ag)))) (ar (kS kT rfl T.Dc T.Df rfl (ae bH ag))) aO)
  (ar (zo (cQ hr) (fE rfl (aa 0) rfl) (bg (ae (aa 1) (ae (aa 2) ag))) (bg (ae (aa 3) (ae (aa 4) ag))) rfl)))),?_⟩
  obtain⟨⟨dx,hx⟩,hp⟩:=id hb
  walk_at "gz"
  refine⟨_,_,hx,rfl,x,p,e,t,u,d,m,i,j,kvs,rfl,hb,fun z=>q0 fun y=>z y.1,fun cH=>?_⟩
  refine⟨lo,hi,rfl,?_⟩
  cases hc:aY lo hi with
  | true =>
   walk_at "gz"
   exact⟨by decide,q0 fun z=>by rw[hc] at z;cases z.2⟩
  | false =>
   walk_at "gz"
   refine⟨bq,fun v hv=>⟨_,_,_,(ax hv) _ _ hx,T.bP,T.iU,_,rfl,bq,fun k hk=>?_⟩⟩
   have s2:=(ax (o:=.tup [ev lo,ev hi]) hv).trans (ax (o:=.tup [.int i,.int j]) hk)
   refine⟨p,rfl,_,jb.t (k:=aZ i j) (s2 _ _ hp) au (ate hl (by decide)),q ⟨cH,hc⟩ (.ref v) _ (fun b o gF e=>?_) au ⟨v,rfl,?_⟩⟩
   ·rw[aH gF];exact s2 _ _ e
   ·have vp:v≠p:=fun z=>by rw[z] at hv;rw[hp] at hv;cases hv
    rw[aH vp];exact (ax hk) _ _ au
end
section
seal L2.PE L2.PS L2.bw L2.PA
variable {P:alr} {w:alS} {K:ak2} {mg:Str->Option ak3} {base:amH}
structure eS (B:ala) (H:Hp) (x:ala) (e t u d m:Int) (p:ala) (tb:Tb):Prop where
 ob:∃ dx,H x=some (.ins B dx (xI e t u d m p))
 tb:TabAt H p tb
theorem eS.same {B:ala} {H H':Hp} {x p:ala} {e t u d m:Int} {tb:Tb} (h:eS B H x e t u d m p tb) (s:ak H H'):eS B H' x e t u d m p tb:=let ⟨⟨dx,a⟩,b⟩:=h;⟨⟨dx,s _ _ a⟩,b.same s⟩
inductive aaS (B C:ala) (vs:List V) (H:Hp) (Q:VK) (E:XK):Prop
 | mk (x p:ala) (e t u d m i j:Int) (kvs:List (List Key × V)) (_:vs=[.ref x,.int i,.int j]) (_:fG B H x e t u d m p kvs) (_:(bF kvs (aZ i j)=none->∀ H',ak H H'->E (.ref C) none H')) (_:(∀ v,bF kvs (aZ i j)=some v->∀ H',SameBut p H H'->H' p=some (.dT (ja kvs (aZ i j)))->Q .non H'))
theorem aaT (T:Tx K mg):aL P w K mg base (aM P w) 2 T.mL T.Cd ["self","eye","turn"] (aaS T.aQ T.eE):=by
 refine je T.xo ZM (fun vs H Q E h=>?_) (fun aI A outer s H vs Q E hr h=>?_)
 ·obtain⟨x,p,e,t,u,d,m,i,j,kvs,rfl,_⟩:=h
  rfl
 ·obtain⟨x,p,e,t,u,d,m,i,j,kvs,rfl,hb,q0,q⟩:=h
  refine⟨_,(aq (dw (iy (aa 0) T.bP T.aaA (aaR T) (hr.mono (by decide)) T.Ck .nil oA (ae (aa 1) (ae (aa 2) ag))))
  (ar (dw (MU (cQ hr) (fE rfl (aa 0) rfl) (bg (ae (aa 1) (ae (aa 2) ag))) ⟨rfl,rfl,rfl,rfl⟩)))),?_⟩
  obtain⟨⟨dx,hx⟩,hp⟩:=id hb
  walk_at "gz"
  refine⟨_,_,hx,rfl,x,p,e,t,u,d,m,i,j,kvs,rfl,hb,q0,fun v hv H1 s1=>?_⟩
  have hx1:=s1 _ _ hx
  have gd:=s1 _ _ hp
  walk_at "gz"
  refine⟨_,_,_,hx1,T.bP,T.iU,_,rfl,p,rfl,.inr ⟨kvs,.inl gd⟩,bq,fun k hk=>?_⟩
  refine⟨kvs,(ax hk) _ _ gd,aZ i j,au,v,hv,q v hv _ (fun b o gF e=>?_) au⟩
  rw[aH gF];exact (ax hk) _ _ (s1 _ _ e)
inductive aaU (B:ala) (vs:List V) (H:Hp) (Q:VK) (a8:XK):Prop
 | mk (x p:ala) (e t u d m:Int) (tb:Tb) (_:vs=[.ref x]) (_:eS B H x e t u d m p tb) (_:(tb.map (·.1)).Nodup) (_:tb.length<64) (_:∀ l xs H',ak H H'->H l=none->H' l=some (.lst xs)->ay (fc H') xs (gY tb)->Q (.ref l) H')
theorem Dj (T:Tx K mg):aL P w K mg base (aM P w) 1 T.mM T.Cf ["self"] (aaU T.aQ):=by
 refine okN T.xq ZN (fun vs H Q E h=>?_) (fun aI A outer s H vs Q E hr h=>?_)
 ·obtain⟨x,p,e,t,u,d,m,tb,rfl,_⟩:=h
  rfl
 ·obtain⟨x,p,e,t,u,d,m,tb,rfl,⟨⟨dx,hx⟩,kvs,hp,hT⟩,hn,c6,q⟩:=h
  refine⟨_,(ar (aG (fq (di.mk (fr:=[0]) (ys:=["self"]) rfl (by decide +kernel) rfl (by decide +kernel) rfl rfl (.cons rfl .nil) (.cons rfl rfl rfl rfl .nil) (by decide) rfl) rfl (eI (bI (Wh rfl) (by rfl) T.C7 zq (ae (fE rfl (aa 0) rfl) ag))) (fun C s2 H2 ex pn=>⟨iB,(bg (ae (dF (K:=K) (aa 0) af) (ae (dF (K:=K) (aa 0) af) (ae (MY (cQ hr) (fE (K:=K) rfl (aa 1) rfl) (aa 0) (fun _ _=>rfl)) ag))))⟩)))),?_⟩
  walk_at "gz"
  refine⟨_,_,_,hx,T.bP,T.iU,_,rfl,p,rfl,kvs,hp,fY tb,Wq hT,Wr,by rw[hT.len];exact c6,fun l ys hl hk=>?_⟩
  have PS:=M6 hT hk
  have s1:=ax (o:=.lst (cR (fY tb) .non ys)) hl
  have L1:upd H l (.lst (cR (fY tb) .non ys)) l=some (.lst (cR (fY tb) .non ys)):=au
  generalize upd H l (.lst (cR (fY tb) .non ys))=H1 at s1 L1 ⊢
  refine⟨⟨_,ah.of L1⟩,ft sL (alp (by rw[PS.len,lx];exact aoW c6:_<=64) (by decide)) (iD (R:=fun H x (r:P2 × S2)=>cw H x r.1) (R':=fun H y (r:P2 × S2)=>fc H y r) (f:=fun r=>r) (bs:=[]) (fun _ _ _ _ s r=>cw.same r s) (fun _ _ _ _ s r=>fc.same r s) (PS.imp fun x r z=>cw.same z s1) trivial (fun H' s'=>ah.of (s' _ _ L1)) (fun x r _ H' s' cz Q h=>?_) (fun x r cz H' s' h0 Q h=>?_) fun H2 zs s2 hz=>?_)⟩
  ·walk_at "gz"
   exact h
  ·obtain⟨a,rfl,ha⟩:=id h0
   have S:=s1.trans s'
   have hT':=hT.imp fun v a b z=>aV.same z S
   obtain⟨w,hw,iw⟩:=(hT'.val r.1).2 _ (oP hn (lr cz))
   walk_at "gz"
   refine aA (aj.of ha) rfl (aA (aj.of ha) rfl ⟨_,_,_,S _ _ hx,T.bP,T.iU,_,rfl,p,rfl,w,?_,?_⟩)
   ·rw[<- hw];exact cu.t (k:=aZ r.1.1 r.1.2) (S _ _ hp) ha
   ·exact⟨by decide,fun z hz=>h _ _ (ax hz) ⟨z,w,rfl,au,aV.same iw (ax hz)⟩⟩
  rw[al3,arV] at hz
  exact fun l2 b5=>q l2 zs _ (s1.trans (s2.trans (ax b5))) ((s1.trans s2).free b5) au (hz.imp fun x r z=>fc.same z (ax b5))
inductive aaV (K:ak2) (vs:List V) (H:Hp) (Q:VK) (a8:XK):Prop
 | mk (a:ala) (xs:List V) (ss:List S2) (_:vs=[.ref a]) (_:ah K H a xs) (_:jW H xs ss) (_:xs.length<=1000) (_:∀ v H',ak H H'->cy H' v (dq (none,none) ss)->Q v H')
inductive aaW (K:ak2) (H:Hp) (a:ala) (xs:List V) (ss:List S2) (i:Nat) (σ:St) (H1:Hp):Prop
 | mk (v:V) (e:Option V) (_:σ=[some (.ref a),some v,e]) (_:ak H H1) (_:aV H1 v (bz (none,none) (ss.take i)).1 (bz (none,none) (ss.take i)).2) (_:aY (bz (none,none) (ss.take i)).1 (bz (none,none) (ss.take i)).2=false)
theorem Dk (T:Tx K mg):aL P w K mg base (aM P w) 3 T.lS T.Bp ["some"] (aaV K):=by
 refine okN T.lT wQ (fun vs H Q E h=>?_) (fun aI A outer s H vs Q E hr h=>?_)
 ·obtain⟨a,xs,ss,rfl,_⟩:=h
  rfl
 ·obtain⟨a,xs,ss,rfl,hS,hP,hn,q⟩:=h
  refine⟨_,(aq (aD (i:=1) wQ.nd rfl (als rfl) (bg (ae bR (ae bR ag))))
  (aq (cO alU rfl (eI (aa 0)) (bo (i:=2) wQ.nd rfl (als rfl)) (aq (aD (i:=1) wQ.nd rfl (als rfl) (aF (Dh T) hr T.Bo T.lR T.tN aB (ae (aa 1) (ae (aa 2) ag))))
    (ar (aN (c8 (aa 1)) (ar (aG bR)) aO))))
  (ar (aG (aa 1))))),?_⟩
  have hA:=j5.mp hP
  have hl:=hA.len
  walk_at "gz"
  refine⟨bq,fun p hp=>?_⟩
  have s0:=ax (o:=.tup [.non,.non]) hp
  refine⟨⟨_,s0.seq hS⟩,jc (xs:=xs) (aaW K H a xs ss) ⟨_,_,rfl,s0,⟨p,rfl,au⟩,rfl⟩ ?_ ?_ ?_⟩
  ·rintro i σ H1 _ ⟨_,_,_,s1,_⟩
   exact s1.seq hS
  ·rintro i x σ H1 hx ⟨v,e,rfl,s1,hv,hc⟩
   obtain⟨w,hw,r⟩:=hA.get hx
   have e1:=Wu (e:=(none,none)) hw
   walk_at "gz"
   refine⟨v,x,_,_,w.1,w.2,rfl,hv,r.same s1,fun y H2 s2 hm=>?_⟩
   have oZ:Me H2 y (bz (none,none) (ss.take (i+1))).1 (bz (none,none) (ss.take (i+1))).2:=by rw[e1];exact hm
   cases hk:aY (bz (none,none) (ss.take (i+1))).1 (bz (none,none) (ss.take (i+1))).2 with
   | true =>
    have ey:=oZ.1 hk
    subst ey
    walk_at "gz"
    refine q _ _ (s1.trans s2) ?_
    unfold dq
    rw[if_pos (Wt hk)]
    rfl
   | false =>
    have hy:=oZ.2 hk
    obtain⟨t,rfl,ht⟩:=id hy
    walk_at "gz"
    exact⟨_,_,rfl,s1.trans s2,hy,hk⟩
  ·rintro σ H1 ⟨v,e,rfl,s1,hv,hc⟩
   walk_at "gz"
   rw[hl,amO] at hv hc
   refine q _ _ s1 ?_
   unfold dq
   rw[if_neg (by rw[hc];simp)]
   exact hv
inductive aaX (B:ala) (vs:List V) (H:Hp) (Q:VK) (a8:XK):Prop
 | mk (x p:ala) (e t u d m i:Int) (k:Str) (kvs:List (List Key × V)) (_:vs=[.ref x,.str k,.int i]) (_:fG B H x e t u d m p kvs) (_:Q (.bl (hasB t k i)) H)
theorem aaY (T:Tx K mg):aL P w K mg base (aM P w) 2 T.mh T.BI ["board","kind","turn"] (aaX T.aQ):=by
 refine okN T.tV Zy (fun vs H Q E h=>?_) (fun aI A outer s H vs Q E hr h=>?_)
 ·obtain⟨x,p,e,t,u,d,m,i,k,kvs,rfl,_⟩:=h
  rfl
 ·obtain⟨x,p,e,t,u,d,m,i,k,kvs,rfl,hb,q⟩:=h
  refine⟨_,(aq (aN (b8 (aa 1) bH) (ar (aG (iQ (iy (aa 0) T.bP T.xG (xJ T) (hr.mono (by decide)) T.qW .nil aB (ae (aa 2) ag)) (i3 (iy (aa 0) T.bP T.xG (xJ T) (hr.mono (by decide)) T.qW .nil aB (ae (aE bc (aa 2) af) ag)))))) aO)
  (ar (aG (iQ (gP rW (aa 1) bH (dW _)) (i3 (iy (aa 0) T.bP T.xG (xJ T) (hr.mono (by decide)) T.qW .nil aB (ae (aa 2) ag))))))),?_⟩
  obtain⟨⟨dx,hx⟩,hp⟩:=id hb
  unfold hasB at q
  walk_at "gz"
  try refine⟨rfl,?_⟩
  by_cases hk:k = "step"
  ·subst hk
   rw[if_pos rfl] at q ⊢
   refine⟨_,_,hx,rfl,x,p,e,t,u,d,m,i,kvs,rfl,hb,?_⟩
   by_cases h1:0<=i/\i<t
   ·rw[decide_eq_true h1] at q ⊢
    walk_at "gz"
    refine⟨_,_,hx,rfl,x,p,e,t,u,d,m,_,kvs,rfl,hb,?_⟩
    rw[arx] at q
    exact q
   ·rw[decide_eq_false h1] at q ⊢
    walk_at "gz"
    exact q
  ·rw[if_neg hk] at q
   rw[if_neg hk]
   try refine⟨rfl,?_⟩
   by_cases dk:k = "at"
   ·subst dk
    rw[decide_eq_true rfl,arx] at q
    rw[if_pos rfl]
    refine⟨_,_,hx,rfl,x,p,e,t,u,d,m,i,kvs,rfl,hb,?_⟩
    exact q
   ·rw[decide_eq_false dk,apE] at q
    rw[if_neg fun z=>dk (V.str.inj z)]
    exact q
inductive aaZ (K:ak2) (B C:ala) (vs:List V) (H:Hp) (Q:VK) (E:XK):Prop
 | mk (x p b:ala) (e t u d m:Int) (kvs:List (List Key × V)) (xs:List V) (ps:List Pa) (_:vs=[.ref x,.ref b]) (_:fG B H x e t u d m p kvs) (_:ah K H b xs) (_:bT H xs ps) (_:(¬ eO t ps->E (.ref C) none H)) (_:(eO t ps->Q .non H))
inductive aa0 (H:Hp) (x b:ala) (t:Int) (ps:List Pa) (i:Nat) (σ:St) (H1:Hp):Prop
 | mk (e:Option V) (_:σ=[some (.ref x),some (.ref b),e]) (_:H1=H) (_:eO t (ps.take i))
theorem Pf (T:Tx K mg):aL P w K mg base (aM P w) 3 T.mi T.BK ["board","claim"] (aaZ K T.aQ T.fF):=by
 refine je T.qS OO (fun vs H Q E h=>?_) (fun aI A outer s H vs Q E hr h=>?_)
 ·obtain⟨x,p,b,e,t,u,d,m,kvs,xs,ps,rfl,_⟩:=h
  rfl
 ·obtain⟨x,p,b,e,t,u,d,m,kvs,xs,ps,rfl,hb,hX,hP,q0,q⟩:=h
  refine⟨_,(ar (cO PassesOwn.leaving rfl (eI (aa 1)) (bo (i:=2) OO.nd rfl (als rfl)) (ar (aN (cL (cT (aF (aaY T) hr T.Z2 T.tV T.BJ aB (ae (aa 0) (ae (aw (aa 2) af) (ae (aw (aa 2) af) ag)))))) (ar (kS kT rfl T.aav T.aaB rfl (ae bH ag))) aO)))),?_⟩
  have hl:=hP.len
  walk_at "gz"
  refine⟨⟨_,hX⟩,jc (xs:=xs) (aa0 H x b t ps) ⟨_,rfl,rfl,fun _ h=>by simp at h⟩ ?_ ?_ ?_⟩
  ·rintro i σ H1 _ ⟨_,_,rfl,_⟩
   exact hX
  ·rintro i y σ H1 hy ⟨e1,rfl,rfl,hk⟩
   obtain⟨pa,hpa,ta,qa,rfl,h1,h2⟩:=hP.get hy
   walk_at "gz"
   refine aA (aj.of h1) rfl (aA (aj.of h1) rfl ?_)
   refine⟨x,p,e,t,u,d,m,pa.2.1,pa.1,kvs,rfl,hb,?_⟩
   cases hc:hasB t pa.1 pa.2.1 with
   | true =>
    walk_at "gz"
    refine⟨_,rfl,rfl,fun z hz=>?_⟩
    rw[amK,hpa] at hz
    rcases alK.mp hz with h|h
    ·exact hk z h
    ·have:z=pa:=by simpa using h
     rw[this];exact hc
   | false =>
    walk_at "gz"
    refine⟨by decide,q0 fun z=>?_⟩
    rw[z pa (alx hpa)] at hc
    cases hc
  ·rintro σ H1 ⟨e1,rfl,rfl,hk⟩
   rw[hl,amO] at hk
   walk_at "gz"
   exact q hk
inductive aa1 (K:ak2) (vs:List V) (H:Hp) (Q:VK) (a8:XK):Prop
 | mk (b:ala) (xs:List V) (ps:List Pa) (k:Str) (t:Int) (_:vs=[.ref b,.str k,.int t]) (_:ah K H b xs) (_:bT H xs ps) (_:ps.length<=1000) (_:∀ l ys H',ak H H'->H l=none->H' l=some (.lst ys)->jW H' ys (sel ps k t)->Q (.ref l) H')
theorem Pg (T:Tx K mg):aL P w K mg base (aM P w) 1 T.mj T.BL ["claim","kind","turn"] (aa1 K):=by
 refine okN T.qT Zz (fun vs H Q E h=>?_) (fun aI A outer s H vs Q E hr h=>?_)
 ·obtain⟨b,xs,ps,k,t,rfl,_⟩:=h
  rfl
 ·obtain⟨b,xs,ps,k,t,rfl,hX,hP,hn,q⟩:=h
  refine⟨_,(ar (aG (fq (di.mk (fr:=[1,2]) (ys:=["kind","turn"]) rfl (by decide +kernel) rfl (by decide +kernel) rfl rfl (.cons rfl (.cons rfl .nil)) (.cons rfl rfl rfl rfl (.cons rfl rfl rfl rfl .nil)) (by decide) rfl) rfl (eI (aa 0)) (fun C s2 H2 ex pn=>⟨(jV (PW.pt (dv (b8 (dF (K:=K) (aa 0) af) (aa 1)) (dU (b8 (dF (K:=K) (aa 0) af) (aa 2)))))),(dF (K:=K) (aa 0) af)⟩)))),?_⟩
  have hl:=hP.len
  walk_at "gz"
  refine⟨⟨_,hX⟩,ft sL (alp (by lia:xs.length<=1000) (by decide)) (oQ (R:=fun x p=>gC H x p) (R':=fun y (s:S2)=>aV H y s.1 s.2) (p:=iG k t) (f:=fun p=>p.2.2) hX hP (fun x p r Q h=>?_) (fun x p _ r Q h=>?_) fun zs hz=>?_)⟩
  ·obtain⟨tt,u,rfl,ht,hu⟩:=r
   unfold iG at h
   walk_at "gz"
   refine aA (aj.of ht) rfl ?_
   walk_at "gz"
   try refine⟨rfl,?_⟩
   by_cases hk:p.1=k
   ·rw[decide_eq_true hk,arx] at h
    rw[if_pos (by rw[hk])]
    refine aA (aj.of ht) rfl ?_
    walk_at "gz"
    exact A6 (Q:=fun k=>Q k H) h
   ·rw[decide_eq_false hk,apE] at h
    rw[if_neg hk]
    exact h
  ·obtain⟨tt,u,rfl,ht,hu⟩:=r
   walk_at "gz"
   exact aA (aj.of ht) rfl (h _ ⟨u,rfl,hu⟩)
  ·rw[al3]
   intro l b5
   exact q l zs _ (ax b5) b5 au (j5.mpr (hz.imp fun _ _ r=>r.same (ax b5)))
noncomputable def cV (u d:Int) (ps:List Pa) (n:Nat):List W2:=(al4 n).map fun (k:Nat)=>dq (none,none) ((some (-d),some u)::sel ps "step" (k:Int))
inductive aa2 (K:ak2) (B C:ala) (vs:List V) (H:Hp) (Q:VK) (E:XK):Prop
 | mk (x p b:ala) (e t u d m:Int) (kvs:List (List Key × V)) (xs:List V) (ps:List Pa) (_:vs=[.ref x,.ref b]) (_:fG B H x e t u d m p kvs) (_:1<=t) (_:t<=12) (_:ah K H b xs) (_:bT H xs ps) (_:ps.length<=900) (_:(¬ eO t ps->E (.ref C) none H)) (_:(eO t ps->∀ l ys H',ak H H'->H l=none->H' l=some (.lst ys)->ay (cy H') ys (cV u d ps (t-1).toNat)->Q (.ref l) H'))
theorem aa3 (T:Tx K mg):aL P w K mg base (aM P w) 4 T.mn T.BM ["board","claim"] (aa2 K T.aQ T.fF):=by
 refine je T.tW OP (fun vs H Q E h=>?_) (fun aI A outer s H vs Q E hr h=>?_)
 ·obtain⟨x,p,b,e,t,u,d,m,kvs,xs,ps,rfl,_⟩:=h
  rfl
 ·obtain⟨x,p,b,e,t,u,d,m,kvs,xs,ps,rfl,hb,t1,t2,hX,hP,hn,q0,q⟩:=h
  refine⟨_,(aq (dw (dB (Pf T) (hr.mono (by decide)) rfl T.OY T.qS.kp T.w6 .nil oA (ae (aa 0) (ae (aa 1) ag))))
  (aq (aD (i:=2) OP.nd rfl (ass rfl) (cF (ae (bg (ae (gk gH (fE rfl (aa 0) rfl)) (ae (fE rfl (aa 0) rfl) ag))) ag)))
  (ar (aG (fq (di.mk (fr:=[2,1]) (ys:=["own","claim"]) rfl (by decide +kernel) rfl (by decide +kernel) rfl rfl (.cons rfl (.cons rfl .nil)) (.cons rfl rfl rfl rfl (.cons rfl rfl rfl rfl .nil)) (by decide) rfl) rfl (fM rfl T.fe (ae (aE dQ (fE rfl (aa 0) rfl) af) ag)) (fun C s2 H2 ex pn=>⟨iB,(aF (Dk T) hr T.Bq T.lT T.tO aB (ae (aE oh (aa 1) (aF (Pg T) hr T.OZ T.qT T.w9 aB (ae (aa 2) (ae bH (ae (aa 0) ag))))) ag))⟩)))))),?_⟩
  obtain⟨⟨dx,hx⟩,hp⟩:=id hb
  walk_at "gz"
  refine⟨x,p,b,e,t,u,d,m,kvs,xs,ps,rfl,hb,hX,hP,q0,fun hk=>?_⟩
  walk_at "gz"
  refine⟨_,_,_,hx,T.bP,T.rg,_,rfl,_,_,_,hx,T.bP,T.rf,_,rfl,bq,fun o ho=>⟨by decide,fun l hl=>?_⟩⟩
  have s1:=(ax (o:=.tup [.int (-d),.int u]) ho).trans (ax (o:=.lst [.ref o]) hl)
  have O1:aV (upd (upd H o (.tup [.int (-d),.int u])) l (.lst [.ref o])) (.ref o) (some (-d)) (some u):=⟨o,rfl,(ax hl) _ _ au⟩
  have L1:(upd (upd H o (.tup [.int (-d),.int u])) l (.lst [.ref o])) l=some (.lst [.ref o]):=au
  generalize upd (upd H o (.tup [.int (-d),.int u])) l (.lst [.ref o])=H1 at s1 O1 L1 ⊢
  refine⟨_,_,_,s1 _ _ hx,T.bP,T.ku,_,rfl,by lia,by lia,?_⟩
  refine ft lg (by rw[ak8,alN];exact alp (by lia:_<=12) (by decide)) (iD (R:=fun _ x (k:Nat)=>x=V.int ((0:Int)+k)) (R':=cy) (f:=fun (k:Nat)=>dq (none,none) ((some (-d),some u)::sel ps "step" (k:Int))) (fun _ _ _ _ _ h=>h) (fun _ _ _ _ s' h=>h.same s') (ay.gK _) (bs:=[]) trivial (fun _ _=>trivial) (fun x k _ H2 s2 r Q h=>?_) (fun x k _ H2 s2 r Q h=>?_) fun H2 zs s2 hz=>?_)
  ·walk_at "gz"
   exact h
  ·subst r
   have S2:=s1.trans s2
   walk_at "gz"
   refine⟨b,xs,ps,"step",_,rfl,S2.seq hX,hP.same S2,by lia,fun r ys H3 s3 _ R3 hR=>?_⟩
   rw[apC] at hR
   walk_at "gz"
   have hlen:ys.length<=900:=by
    have:=(j5.mp hR).len
    have h2:(sel ps "step" (k:Int)).length<=ps.length:=by
     unfold sel
     rw[ak8]
     exact al8 _ _
    lia
   refine⟨[.ref o],s3 _ _ (s2 _ _ L1),ys,R3,alp (by show 1+ys.length<=1000;lia) (by decide),fun c hc=>?_⟩
   have s4:=ax (o:=.lst ([.ref o]++ys)) hc
   refine⟨c,_,(some (-d),some u)::sel ps "step" (k:Int),rfl,ah.of au,⟨(O1.same (s2.trans s3)).same s4,?_⟩,by rw[alD,aly];lia,fun v H5 s5 hv=>h _ _ ((s3.trans s4).trans s5) hv⟩
   exact j5.mpr ((j5.mp hR).imp fun _ _ r=>r.same s4)
  ·intro c hc
   refine q hk c zs _ ((s1.trans s2).trans (ax hc)) ((s1.trans s2).free hc) au ?_
   rw[al3] at hz
   exact hz.imp fun _ _ r=>r.same (ax hc)
noncomputable def cJ (ps:List Pa) (n:Nat):List W2:=(al4 n).map fun (k:Nat)=>dq (none,none) (sel ps "at" (k:Int))
inductive aa4 (K:ak2) (B C:ala) (vs:List V) (H:Hp) (Q:VK) (E:XK):Prop
 | mk (x p b:ala) (e t u d m:Int) (kvs:List (List Key × V)) (xs:List V) (ps:List Pa) (_:vs=[.ref x,.ref b]) (_:fG B H x e t u d m p kvs) (_:1<=t) (_:t<=12) (_:ah K H b xs) (_:bT H xs ps) (_:ps.length<=900) (_:(¬ eO t ps->E (.ref C) none H)) (_:(eO t ps->∀ l ys H',ak H H'->H l=none->H' l=some (.lst ys)->ay (cy H') ys (cJ ps t.toNat)->Q (.ref l) H'))
theorem aa5 (T:Tx K mg):aL P w K mg base (aM P w) 4 T.mq T.BO ["board","claim"] (aa4 K T.aQ T.fF):=by
 refine je T.tX ZA (fun vs H Q E h=>?_) (fun aI A outer s H vs Q E hr h=>?_)
 ·obtain⟨x,p,b,e,t,u,d,m,kvs,xs,ps,rfl,_⟩:=h
  rfl
 ·obtain⟨x,p,b,e,t,u,d,m,kvs,xs,ps,rfl,hb,t1,t2,hX,hP,hn,q0,q⟩:=h
  refine⟨_,(aq (dw (dB (Pf T) (hr.mono (by decide)) rfl T.OY T.qS.kp T.w6 .nil oA (ae (aa 0) (ae (aa 1) ag))))
  (ar (aG (fq (di.mk (fr:=[1]) (ys:=["claim"]) rfl (by decide +kernel) rfl (by decide +kernel) rfl rfl (.cons rfl .nil) (.cons rfl rfl rfl rfl .nil) (by decide) rfl) rfl (fM rfl T.fe (ae (fE rfl (aa 0) rfl) ag)) (fun C s2 H2 ex pn=>⟨iB,(aF (Dk T) hr T.Bq T.lT T.tO aB (ae (aF (Pg T) hr T.OZ T.qT T.w9 aB (ae (aa 1) (ae bH (ae (aa 0) ag)))) ag))⟩))))),?_⟩
  obtain⟨⟨dx,hx⟩,hp⟩:=id hb
  walk_at "gz"
  refine⟨x,p,b,e,t,u,d,m,kvs,xs,ps,rfl,hb,hX,hP,q0,fun hk=>?_⟩
  walk_at "gz"
  refine⟨_,_,_,hx,T.bP,T.ku,_,rfl,_,rfl,by lia,by lia,?_⟩
  refine ft lg (by rw[ak8,alN];exact alp (by lia:_<=12) (by decide)) (iD (R:=fun _ x (k:Nat)=>x=V.int ((0:Int)+k)) (R':=cy) (f:=fun (k:Nat)=>dq (none,none) (sel ps "at" (k:Int))) (fun _ _ _ _ _ h=>h) (fun _ _ _ _ s' h=>h.same s') (ay.gK _) (bs:=[]) trivial (fun _ _=>trivial) (fun x k _ H2 s2 r Q h=>?_) (fun x k _ H2 s2 r Q h=>?_) fun H2 zs s2 hz=>?_)
  ·walk_at "gz"
   exact h
  ·subst r
   walk_at "gz"
   refine⟨b,xs,ps,"at",_,rfl,s2.seq hX,hP.same s2,by lia,fun r ys H3 s3 _ R3 hR=>?_⟩
   rw[apC] at hR
   walk_at "gz"
   have hlen:ys.length<=900:=by
    have:=(j5.mp hR).len
    have h2:(sel ps "at" (k:Int)).length<=ps.length:=by
     unfold sel
     rw[ak8]
     exact al8 _ _
    lia
   exact⟨r,ys,_,rfl,ah.of R3,hR,by lia,fun v H5 s5 hv=>h _ _ (s3.trans s5) hv⟩
  ·intro c hc
   refine q hk c zs _ (s2.trans (ax hc)) (s2.free hc) au ?_
   rw[al3] at hz
   exact hz.imp fun _ _ r=>r.same (ax hc)
inductive aa6 (vs:List V) (H:Hp) (Q:VK) (a8:XK):Prop
 | mk (v:V) (c:S2) (_:vs=[v]) (_:sO H v c) (_:Q (.int (jk c)) H)
theorem Ph (T:Tx K mg):aL P w K mg base (aM P w) 1 T.lU T.Br ["cell"] aa6:=by
 refine okN T.qO Zu (fun vs H Q E h=>?_) (fun aI A outer s H vs Q E hr h=>?_)
 ·obtain⟨v,c,rfl,_⟩:=h
  rfl
 ·obtain⟨v,⟨e1,e2⟩,rfl,⟨p,rfl,hp⟩,q⟩:=h
  refine⟨_,(aq (aN (dE (aw (aa 0) af)) (ar (aG (aw (aa 0) af))) aO)
  (aq (aN (dE (aw (aa 0) af)) (ar (aG (aw (aa 0) af))) aO)
  (ar (aG af)))),?_⟩
  walk_at "gz"
  refine aA (aj.of hp) rfl ?_
  rcases e1 with _|x
  ·walk_at "gz"
   refine aA (aj.of hp) rfl ?_
   rcases e2 with _|y
   ·walk_at "gz"
    exact q
   ·walk_at "gz"
    exact aA (aj.of hp) rfl q
  ·walk_at "gz"
   exact aA (aj.of hp) rfl q
end
section
seal L2.PE L2.PS L2.bw L2.PA
variable {P:alr} {w:alS} {K:ak2} {mg:Str->Option ak3} {base:amH}
inductive aa7 (K:ak2) (B:ala) (vs:List V) (H:Hp) (Q:VK) (a8:XK):Prop
 | mk (x p:ala) (e t u d m i:Int) (tb:Tb) (_:vs=[.ref x,.int i]) (_:eS B H x e t u d m p tb) (_:(tb.map (·.1)).Nodup) (_:tb.length<64) (_:(∀ r∈tb,0<=r.1.2)) (_:∀ l ys H',ak H H'->H l=none->H' l=some (.lst ys)->ay (cD H') ys (j7 tb i)->Q (.ref l) H')
theorem aa8 (T:Tx K mg):aL P w K mg base (aM P w) 2 T.mr T.BQ ["board","eye"] (aa7 K T.aQ):=by
 refine okN T.tY ZC (fun vs H Q E h=>?_) (fun aI A outer s H vs Q E hr h=>?_)
 ·obtain⟨x,p,e,t,u,d,m,i,tb,rfl,_⟩:=h
  rfl
 ·obtain⟨x,p,e,t,u,d,m,i,tb,rfl,hb,cS,c6,h0,q⟩:=h
  refine⟨_,(ar (aG (Mu (g:=kF K 3 (dz (de 0) (dz (de 1) (dz (de 2) jM)))) (sN.mk (own:=["teller","turn","word"]) (fr:=[1]) (ys:=["eye"]) rfl (by decide +kernel) rfl (by decide +kernel) rfl (.cons rfl .nil) (.cons rfl rfl rfl rfl .nil) rfl) rfl (eI (yZ (aa 0) T.bP T.Dd (Dj T) (hr.mono (by decide)) T.ua .nil aB)) (fun C s2 H2 ex pn=>fK (n:=3) rfl (bW (bo (i:=0) (show (["teller","turn","word","eye"]:List Str).Nodup by decide) rfl (.inl (alX rfl)) (.inr (alX rfl))) (bW (bo (i:=1) (show (["teller","turn","word","eye"]:List Str).Nodup by decide) rfl (.inl (alX rfl)) (.inr (alX rfl))) (bW (bo (i:=2) (show (["teller","turn","word","eye"]:List Str).Nodup by decide) rfl (.inl (alX rfl)) (.inr (alX rfl))) fJ)))) (fun C s2 H2 ex pn=>⟨(jV (b8 (aa 0) (aa 3))),(bg (ae (aa 1) (ae (aa 2) ag)))⟩)))),?_⟩
  obtain⟨⟨dx,hx⟩,htb⟩:=id hb
  walk_at "gzn"
  refine⟨_,_,hx,rfl,x,p,e,t,u,d,m,tb,rfl,hb,cS,c6,fun l xs H1 s1 _ hl hT=>?_⟩
  have tl:=hT.len
  rw[lx] at tl
  refine⟨l,rfl,⟨_,ah.of hl⟩,Nr (row:=rowOf H1) (alp (by lia:xs.length<=64) (by decide)) (wc (R:=fun _ x (r:P2 × S2)=>fc H1 x r) (R':=cD) (p:=fun r=>decide (r.1.1=i)) (f:=fun r=>(r.1.2.toNat,r.2)) (fun _ _ _ _ _ h=>h) (fun _ _ _ _ s' h=>h.same s') hT (bs:=[]) trivial (fun H' s'=>Nv hl hT s') (fun x r _ H2 s2 h1 Q h=>?_) (fun x r cz hp H2 s2 h1 Q h=>?_) fun H2 zs s2 hz=>?_)⟩
  ·obtain⟨ta,w,rfl,ha,hw⟩:=h1
   unfold lz
   dsimp only
   rw[sU ha]
   walk_at "gzn"
   exact A6 (Q:=fun k=>Q k H2) h
  ·obtain⟨ta,w,rfl,ha,wp,rfl,hw⟩:=h1
   unfold lA
   dsimp only
   rw[sU ha]
   walk_at "gzn"
   have dG:=h0 r (lr cz)
   refine⟨bq,fun t1 jH=>h _ _ (ax jH) ⟨t1,wp,rfl,?_,(ax jH) _ _ (s2 _ _ hw)⟩⟩
   rw[au]
   show some (HO.tup [.int r.1.2,.ref wp])=some (.tup [.int ((r.1.2.toNat:Nat):Int),.ref wp])
   rw[anP dG]
  ·rw[al3] at hz
   intro l2 b5
   exact q l2 zs _ (s1.trans (s2.trans (ax b5))) ((s1.trans s2).free b5) au (hz.imp fun _ _ r=>r.same (ax b5))
inductive aa9 (K:ak2) (B:ala) (vs:List V) (H:Hp) (Q:VK) (a8:XK):Prop
 | mk (x p o:ala) (e t u d m:Int) (tb:Tb) (es:List Int) (_:vs=[.ref x,.ref o]) (_:eS B H x e t u d m p tb) (_:(tb.map (·.1)).Nodup) (_:tb.length<64) (_:(∀ r∈tb,0<=r.1.2)) (_:ah K H o (es.map V.int)) (_:es.length<=100) (_:∀ l ys H',ak H H'->H' l=some (.lst ys)->ay (cD H') ys (((gY tb).filter fun r=>!es.contains r.1.1).map fun r=>(r.1.2.toNat,r.2))->Q (.ref l) H')
theorem aba (T:Tx K mg):aL P w K mg base (aM P w) 2 T.mv T.BS ["board","some"] (aa9 K T.aQ):=by
 refine okN T.tZ ZD (fun vs H Q E h=>?_) (fun aI A outer s H vs Q E hr h=>?_)
 ·obtain⟨x,p,o,e,t,u,d,m,tb,es,rfl,_⟩:=h
  rfl
 ·obtain⟨x,p,o,e,t,u,d,m,tb,es,rfl,hb,cS,c6,h0,ho,sX,q⟩:=h
  refine⟨_,(ar (aG (Mu (g:=kF K 3 (dz (de 0) (dz (de 1) (dz (de 2) jM)))) (sN.mk (own:=["teller","turn","word"]) (fr:=[1]) (ys:=["some"]) rfl (by decide +kernel) rfl (by decide +kernel) rfl (.cons rfl .nil) (.cons rfl rfl rfl rfl .nil) rfl) rfl (eI (yZ (aa 0) T.bP T.Dd (Dj T) (hr.mono (by decide)) T.ua .nil aB)) (fun C s2 H2 ex pn=>fK (n:=3) rfl (bW (bo (i:=0) (show (["teller","turn","word","some"]:List Str).Nodup by decide) rfl (.inl (alX rfl)) (.inr (alX rfl))) (bW (bo (i:=1) (show (["teller","turn","word","some"]:List Str).Nodup by decide) rfl (.inl (alX rfl)) (.inr (alX rfl))) (bW (bo (i:=2) (show (["teller","turn","word","some"]:List Str).Nodup by decide) rfl (.inl (alX rfl)) (.inr (alX rfl))) fJ)))) (fun C s2 H2 ex pn=>⟨(jV (gp (Vj (K:=K) rfl) (aa 0) (aa 3) (by with_unfolding_all rfl))),(bg (ae (aa 1) (ae (aa 2) ag)))⟩)))),?_⟩
  obtain⟨⟨dx,hx⟩,htb⟩:=id hb
  walk_at "gzn"
  refine⟨_,_,hx,rfl,x,p,e,t,u,d,m,tb,rfl,hb,cS,c6,fun l xs H1 s1 _ hl hT=>?_⟩
  have tl:=hT.len
  rw[lx] at tl
  refine⟨l,rfl,⟨_,ah.of hl⟩,Nr (row:=rowOf H1) (alp (by lia:xs.length<=64) (by decide)) (wc (R:=fun _ x (r:P2 × S2)=>fc H1 x r) (R':=cD) (p:=fun r=>!es.contains r.1.1) (f:=fun r=>(r.1.2.toNat,r.2)) (fun _ _ _ _ _ h=>h) (fun _ _ _ _ s' h=>h.same s') hT (bs:=[]) trivial (fun H' s'=>Nv hl hT s') (fun x r _ H2 s2 h1 Q h=>?_) (fun x r cz hp H2 s2 h1 Q h=>?_) fun H2 zs s2 hz=>?_)⟩
  ·obtain⟨ta,w,rfl,ha,hw⟩:=h1
   unfold lz
   dsimp only
   rw[sU ha]
   walk_at "gzn"
   refine⟨o,_,rfl,.inl ((s1.trans s2).seq ho),rfl,AE es,_,rfl,?_⟩
   rw[wg,if_pos rfl]
   exact h
  ·obtain⟨ta,w,rfl,ha,wp,rfl,hw⟩:=h1
   unfold lA
   dsimp only
   rw[sU ha]
   walk_at "gzn"
   have dG:=h0 r (lr cz)
   refine⟨bq,fun t1 jH=>h _ _ (ax jH) ⟨t1,wp,rfl,?_,(ax jH) _ _ (s2 _ _ hw)⟩⟩
   rw[au]
   show some (HO.tup [.int r.1.2,.ref wp])=some (.tup [.int ((r.1.2.toNat:Nat):Int),.ref wp])
   rw[anP dG]
  ·rw[al3] at hz
   intro l2 b5
   exact q l2 zs _ (s1.trans (s2.trans (ax b5))) au (hz.imp fun _ _ r=>r.same (ax b5))
end
section
seal L2.PE L2.PS L2.bw L2.PA
variable {P:alr} {w:alS} {K:ak2} {mg:Str->Option ak3} {base:amH}
inductive rh (H:Hp) (v:V) (r:Gp):Prop
 | mk (g k:ala) (zs:List V) (_:v = .ref g) (_:H g=some (.tup [ev r.1,.ref k])) (_:H k=some (.lst zs)) (_:ay (cD H) zs r.2)
theorem rh.same {H H':Hp} {v:V} {r:Gp} (h:rh H v r) (s:ak H H'):rh H' v r:=let ⟨g,k,zs,e,a,b,c⟩:=h;⟨g,k,zs,e,s _ _ a,s _ _ b,c.imp fun _ _ x=>x.same s⟩
inductive abb (K:ak2) (B:ala) (vs:List V) (H:Hp) (Q:VK) (a8:XK):Prop
 | mk (x p:ala) (e t u d m:Int) (tb:Tb) (_:vs=[.ref x]) (_:eS B H x e t u d m p tb) (_:(tb.map (·.1)).Nodup) (_:tb.length<64) (_:(∀ r∈tb,0<=r.1.2)) (_:0<=e) (_:e<=7) (_:∀ l ys H',ak H H'->H l=none->H' l=some (.lst ys)->ay (rh H') ys ((tj e.toNat tb).map fun r=>(some r.1,r.2))->Q (.ref l) H')
theorem abc (T:Tx K mg):aL P w K mg base (aM P w) 3 T.mw T.BW ["board"] (abb K T.aQ):=by
 refine okN T.t4 ZE (fun vs H Q E h=>?_) (fun aI A outer s H vs Q E hr h=>?_)
 ·obtain⟨x,p,e,t,u,d,m,tb,rfl,_⟩:=h
  rfl
 ·obtain⟨x,p,e,t,u,d,m,tb,rfl,hb,cS,c6,cz,h0,h7,q⟩:=h
  refine⟨_,(ar (aG (fq (di.mk (fr:=[0]) (ys:=["board"]) rfl (by decide +kernel) rfl (by decide +kernel) rfl rfl (.cons rfl .nil) (.cons rfl rfl rfl rfl .nil) (by decide) rfl) rfl (fM rfl T.fe (ae (fE rfl (aa 0) rfl) ag)) (fun C s2 H2 ex pn=>⟨iB,(bg (ae (aa 0) (ae (aF (aa8 T) hr T.Z5 T.tY T.BR aB (ae (aa 1) (ae (aa 0) ag))) ag)))⟩)))),?_⟩
  obtain⟨⟨dx,hx⟩,hp⟩:=id hb
  walk_at "gzn"
  refine⟨_,_,_,hx,T.bP,T.nC,_,rfl,?_⟩
  refine⟨e,rfl,by lia,by lia,ft lg (by rw[ak8,alN];exact alp (by lia:_<=12) (by decide)) (iD (R:=fun _ x (k:Nat)=>x=V.int ((0:Int)+k)) (R':=rh) (f:=fun (k:Nat)=>((some (k:Int),j7 tb (k:Int)):Gp)) (fun _ _ _ _ _ h=>h) (fun _ _ _ _ s' h=>h.same s') (ay.gK _) (bs:=[]) trivial (fun _ _=>trivial) (fun x k _ H2 s2 r Q h=>?_) (fun x k _ H2 s2 r Q h=>?_) fun H2 zs s2 hz=>?_)⟩
  ·walk_at "gz"
   exact h
  ·subst r
   walk_at "gz"
   rw[apC]
   refine⟨x,p,e,t,u,d,m,(k:Int),tb,rfl,hb.same s2,cS,c6,cz,fun l ys H3 s3 _ hl hM=>⟨bq,fun g hg=>?_⟩⟩
   have u1:=ax (o:=.tup [.int (k:Int),.ref l]) hg
   exact h _ _ (s3.trans u1) ⟨g,l,ys,rfl,au,u1 _ _ hl,hM.imp fun _ _ x=>x.same u1⟩
  ·intro l hl
   rw[al3] at hz
   refine q l zs _ (s2.trans (ax hl)) (s2.free hl) au ?_
   unfold tj
   rw[anI]
   exact hz.imp fun _ _ r=>r.same (ax hl)
end
section
seal L2.PE L2.PS L2.bw L2.PA
variable {P:alr} {w:alS} {K:ak2} {mg:Str->Option ak3} {base:amH}
inductive abd (K:ak2) (vs:List V) (H:Hp) (Q:VK) (a8:XK):Prop
 | mk (v u:V) (s:S2) (p:P2) (_:vs=[v,u]) (_:aV H v s.1 s.2) (_:cw H u p) (_:∀ r H',ak H H'->H r=none->H' r=some (.tup [ev (eh s p).1,ev (eh s p).2])->Q (.ref r) H')
theorem Pj (T:Tx K mg):aL P w K mg base (aM P w) 1 T.lV T.Bs ["one","step"] (abd K):=by
 refine okN T.qP Bg (fun vs H Q E h=>?_) (fun aI A outer s H vs Q E hr h=>?_)
 ·obtain⟨v,u,s,p,rfl,_⟩:=h
  rfl
 ·obtain⟨v,u,⟨lo,hi⟩,⟨p1,p2⟩,rfl,⟨a,rfl,ha⟩,⟨b,rfl,hb⟩,q⟩:=h
  refine⟨_,(aq (aD (i:=2) Bg.nd rfl (als rfl) (nZ (c8 (aw (aa 0) af)) bR (aE bc (aw (aa 0) af) (aw (aa 1) af))))
  (aq (aD (i:=3) Bg.nd rfl (als rfl) (nZ (c8 (aw (aa 0) af)) bR (aE bc (aw (aa 0) af) (aw (aa 1) af))))
  (ar (aG (bg (ae (aa 2) (ae (aa 3) ag))))))),?_⟩
  rcases lo with _|lo<;>rcases hi with _|hi
  all_goals simp only[zV,zW] at ha
  all_goals
   walk_at "gzn"
   repeat' first
   | refine aA (aj.of ha) rfl ?_
   | refine aA (aj.of hb) rfl ?_
   | (walk_at "gzp")
  all_goals exact⟨bq,fun r hr=>q r _ (ax hr) hr au⟩
theorem abe {H:Hp} {zs:List V} {ss:List S2} (h:ay (fun v (s:S2)=>aV H v s.1 s.2) zs ss) (h0:0<ss.length):∃ v,cB zs (-1)=some v/\aV H v (bU ss (ss.length-1)).1 (bU ss (ss.length-1)).2:=by
 have hl:=h.len
 obtain⟨v,hv,r⟩:=h.at (ak9 (l:=ss) (i:=ss.length-1) (by lia))
 have e:zs=zs.take (ss.length-1)++[v]:=by
  have:=amT (ss.length-1) zs
  rw[amt (by lia),aoD (by lia)] at this
  rw[ak9 (by lia)] at hv
  cases hv
  exact this.symm
 refine⟨v,by rw[e];exact KR _ _,?_⟩
 unfold bU
 rw[ak4,ak9 (by lia)]
 exact r
inductive abf (K:ak2) (vs:List V) (H:Hp) (Q:VK) (a8:XK):Prop
 | mk (a b:ala) (xs ys:List V) (ws:List W2) (ps:List P2) (_:vs=[.ref a,.ref b]) (_:ah K H a xs) (_:ay (cy H) xs ws) (_:ah K H b ys) (_:cZ H ys ps) (_:ws.length<=ps.length+1) (_:ws.length<=1000) (_:(∀ t,t<ws.length->bh (eo ws) (aK ps) t=none->∀ H',ak H H'->Q .non H')) (_:((∀ t,t<ws.length->bh (eo ws) (aK ps) t≠none)->∀ l zs ss H',ak H H'->H l=none->H' l=some (.lst zs)->ay (sO H') zs ss->ss.length=ws.length->(∀ t,t<ws.length->bh (eo ws) (aK ps) t=some (bU ss t))->Q (.ref l) H'))
inductive Pk (H:Hp) (a b l:ala) (ws:List W2) (ps:List P2) (i:Nat) (σ:St) (H1:Hp):Prop
 | mk (zs:List V) (ss:List S2) (e1 e2 e3:Option V) (_:σ=[some (.ref a),some (.ref b),some (.ref l),e1,e2,e3]) (_:ak H H1) (_:H1 l=some (.lst zs)) (_:ay (sO H1) zs ss) (_:ss.length=i) (_:∀ t,t<i->bh (eo ws) (aK ps) t=some (bU ss t))
theorem Pl (T:Tx K mg):aL P w K mg base (aM P w) 3 T.lW T.Bu ["boxes","steps"] (abf K):=by
 refine okN T.qQ qG (fun vs H Q E h=>?_) (fun aI A outer s H vs Q E hr h=>?_)
 ·obtain⟨a,b,xs,ys,ws,ps,rfl,_⟩:=h
  rfl
 ·obtain⟨a,b,xs,ys,ws,ps,rfl,hS,hW,hT,hP,hl,hn,q0,q⟩:=h
  refine⟨_,(aq (aD (i:=2) qG.nd rfl (als rfl) (cF ag))
  (aq (cO alU rfl (z9 rfl T.xE (ae (aa 0) ag)) (fK rfl (bW (bo (i:=3) qG.nd rfl (als rfl)) (bW (bo (i:=4) qG.nd rfl (als rfl)) fJ))) (aq (aD (i:=5) qG.nd rfl (als rfl) (aa 4))
    (aq (aN (PW.pt (dv (ib (aa 3) af) (dU (dE (aa 4))))) (ar (aD (i:=5) qG.nd rfl (als rfl) (aF (Dh T) hr T.Bo T.lR T.tN aB (ae (aa 4) (ae (aF (Pj T) hr T.OV T.qP T.wY aB (ae (aw (aa 2) (gk gH af)) (ae (aw (aa 1) (aE dQ (aa 3) af)) ag))) ag))))) aO)
    (aq (aN (c8 (aa 5)) (ar (aG bR)) aO)
    (ar (dw (i9 al0 amv amw kM (aa 2) (ae (aa 5) ag))))))))
  (ar (aG (aa 2))))),?_⟩
  have l1:=hW.len
  have l2:=hP.len
  walk_at "gzn"
  refine⟨by decide,fun l cE=>?_⟩
  have s1:=ax (o:=.lst []) cE
  have e1:upd H l (.lst []) l=some (.lst []):=au
  generalize upd H l (.lst [])=H1 at s1 e1 ⊢
  walk_at "gzn"
  refine⟨⟨_,s1.seq hS⟩,Ac (xs:=xs) (Pk H a b l ws ps) ⟨[],[],_,_,_,rfl,s1,e1,trivial,rfl,fun t h=>absurd h (am5 _)⟩ ?_ ?_ ?_⟩
  ·rintro i σ H2 _ ⟨_,_,_,_,_,_,s2,_⟩
   exact s2.seq hS
  ·rintro i x σ H2 p hx ⟨zs,ss,d1,d2,d3,rfl,s2,b5,hz,hlen,gf⟩ hp
   obtain⟨w,hw,r⟩:=hW.get hx
   have sp:=ax (o:=.tup [.int i,x]) hp
   refine jY (aj.of au) ?_
   generalize upd H2 p (.tup [.int i,x])=H3 at sp ⊢
   have s3:=s2.trans sp
   have r3:=r.same s3
   have bC:=sp _ _ b5
   have dH:=hz.imp fun _ _ r=>aV.same r sp
   have zl:=hz.len
   have ew:eo ws i=w:=by unfold eo;rw[ak4,hw];rfl
   have hi:=(alj.mp hx).1
   have add:∀ (v:V) (k:S2) (H4:Hp) (d1 d2 d3:Option V),ak H3 H4->aV H4 v k.1 k.2->bh (eo ws) (aK ps) i=some k->Pk H a b l ws ps (i+1) [some (.ref a),some (.ref b),some (.ref l),d1,d2,d3] (upd H4 l (.lst (zs++[v]))):=fun v k H4 d1 d2 d3 s4 hv ek=>by
    have ie:=s4 _ _ bC
    refine⟨zs++[v],ss++[k],d1,d2,d3,rfl,fT cE (s3.trans s4),au,?_,by rw[alD,aly,hlen],fun t ht=>?_⟩
    ·exact ((dH.imp fun _ _ r=>aV.same r s4).snoc hv).imp fun _ _ r=>aV.put r ie
    ·unfold bU
     rw[ak4]
     by_cases e:t=i
     ·subst e
      rw[ek,amk (by lia),hlen,aqR]
      rfl
     ·rw[gf t (by lia),al7 (by lia)]
      unfold bU
      rw[ak4]
   cases w with
   | none =>
    obtain rfl:x = .non:=r3
    have e0:bh (eo ws) (aK ps) i=none:=by
     cases i with
     | zero=>exact ew
     | succ i=>unfold bh;rw[ew]
    walk_at "gzn"
    have fin:=q0 i (by lia) e0 _ s3
    exact bb (fun _=>fin) fun _=>fin
   | some k =>
    obtain⟨rp,rfl,hrp⟩:=id (show aV H3 x k.1 k.2 from r3)
    cases i with
    | zero =>
     walk_at "gzn"
     exact⟨.inl ⟨rfl,_,ah.of bC⟩,_,bC,al9 (by lia:zs.length<=1000) (by decide),add _ k _ _ _ _ (ak.refl _) r3 ew⟩
    | succ i =>
     walk_at "gzn"
     rw[if_pos (by lia)]
     obtain⟨v,hv,rv⟩:=abe (ss:=ss) dH (by lia)
     obtain⟨u,hu,ru⟩:=hP.at (ak9 (l:=ps) (i:=i) (by lia))
     have ep:ps[i]'(by lia)=aK ps i:=by unfold aK;rw[ak4,ak9 (by lia)];rfl
     rw[ep] at ru
     rw[show (((i+1:Nat):Int)-1)=((i:Nat):Int) by lia]
     refine aP (ah.of bC) hv (aP (s3.seq hT) (dC hu) ?_)
     rw[hlen,Nat.add_sub_cancel] at rv
     refine⟨v,u,bU ss i,aK ps i,rfl,rv,ru.same s3,fun r H4 s4 _ hr4=>?_⟩
     refine⟨_,_,k.1,k.2,_,_,rfl,⟨rp,rfl,s4 _ _ hrp⟩,⟨r,rfl,hr4⟩,fun y H5 s5 hy=>?_⟩
     have ek:=gf i (by lia)
     have en:bh (eo ws) (aK ps) (i+1)=gD k (eh (bU ss i) (aK ps i)):=by
      show (match eo ws (i+1),bh (eo ws) (aK ps) i with
       | some b,some k=>gD b (eh k (aK ps i))
       | _,_=>none)=_
      rw[ew,ek]
     have uE:=(s4.trans s5) _ _ bC
     unfold gD at en
     cases hc:aY (cX k.1 (eh (bU ss i) (aK ps i)).1) (cY k.2 (eh (bU ss i) (aK ps i)).2) with
     | true =>
      rw[if_pos hc] at en
      obtain rfl:=hy.1 hc
      walk_at "gzn"
      exact q0 (i+1) (by lia) en _ (s3.trans (s4.trans s5))
     | false =>
      rw[if_neg (by rw[hc];simp)] at en
      have xK:=hy.2 hc
      obtain⟨yp,rfl,hyp⟩:=id xK
      walk_at "gzn"
      exact⟨.inl ⟨rfl,_,ah.of uE⟩,_,uE,al9 (by lia:zs.length<=1000) (by decide),add _ _ _ _ _ _ (s4.trans s5) xK en⟩
  ·rintro σ H2 ⟨zs,ss,d1,d2,d3,rfl,s2,b5,hz,hlen,gf⟩
   walk_at "gzn"
   rw[l1] at hlen gf
   exact q (fun t ht=>by rw[gf t ht];simp) l zs ss H2 s2 cE b5 hz hlen gf
end
section
seal L2.PE L2.PS L2.bw L2.PA
variable {P:alr} {w:alS} {K:ak2} {mg:Str->Option ak3} {base:amH}
inductive abg (K:ak2) (vs:List V) (H:Hp) (Q:VK) (a8:XK):Prop
 | mk (a:ala) (xs:List V) (ms:List Mk) (t:Nat) (_:vs=[.ref a,.int t]) (_:ah K H a xs) (_:ay (cD H) xs ms) (_:ms.length<=1000) (_:∀ l ys H',ak H H'->H' l=some (.lst ys)->jW H' ys (atT ms t)->Q (.ref l) H')
theorem abh (T:Tx K mg):aL P w K mg base (aM P w) 1 T.lX T.Bv ["marks","turn"] (abg K):=by
 refine okN T.tP Zv (fun vs H Q E h=>?_) (fun aI A outer s H vs Q E hr h=>?_)
 ·obtain⟨a,xs,ms,t,rfl,_⟩:=h
  rfl
 ·obtain⟨a,xs,ms,t,rfl,hS,hM,hn,q⟩:=h
  refine⟨_,(ar (aG (fq (di.mk (fr:=[1]) (ys:=["turn"]) rfl (by decide +kernel) rfl (by decide +kernel) rfl rfl (.cons rfl .nil) (.cons rfl rfl rfl rfl .nil) (by decide) rfl) rfl (eI (aa 0)) (fun C s2 H2 ex pn=>⟨(jV (b8 (dF (K:=K) (aa 0) af) (aa 1))),(dF (K:=K) (aa 0) af)⟩)))),?_⟩
  have hl:=hM.len
  walk_at "gzn"
  refine⟨⟨_,hS⟩,ft sL (alp (by lia:xs.length<=1000) (by decide)) (oQ (R:=cD H) (R':=fun v (s:S2)=>aV H v s.1 s.2) (p:=fun m=>decide (m.1=t)) (f:=fun m=>m.2) hS hM (fun x m r Q h=>?_) (fun x m hp r Q h=>?_) fun zs hz=>?_)⟩
  ·obtain⟨tp,sp,rfl,h1,h2⟩:=r
   walk_at "gzn"
   refine aA (aj.of h1) rfl ?_
   walk_at "gzn"
   refine A6 (Q:=fun k=>Q k H) ?_
   rw[show decide ((m.1:Int)=(t:Int))=decide (m.1=t) from decide_eq_decide.mpr (by lia)]
   exact h
  ·obtain⟨tp,sp,rfl,h1,h2⟩:=r
   walk_at "gzn"
   exact aA (aj.of h1) rfl (h _ ⟨sp,rfl,h2⟩)
  ·rw[al3]
   intro l hl
   exact q l zs _ (ax hl) au (j5.mpr (hz.imp fun _ _ r=>r.same (ax hl)))
theorem ay.rev {α:Type} {R:V->α->Prop}:∀ {xs:List V} {as:List α},ay R xs as->ay R xs.reverse as.reverse
 | [],[],_=>trivial
 | x::xs,a::as,h=>by rw[aoL,aoL];exact (ay.rev h.2).app ⟨h.1,trivial⟩
 | [],_::_,h=>h.elim
 | _::_,[],h=>h.elim
inductive abi (K:ak2) (vs:List V) (H:Hp) (Q:VK) (a8:XK):Prop
 | mk (a b:ala) (xs ys:List V) (ps:List P2) (ms:List Mk) (_:vs=[.ref a,.ref b]) (_:ah K H a xs) (_:cZ H xs ps) (_:ah K H b ys) (_:ay (cD H) ys ms) (_:dN ps) (_:ps.length<=900) (_:ms.length<=1000) (_:(∀ t,t<=ps.length->bh (b7 ms) (aK ps) t=none->∀ H',ak H H'->Q .non H')) (_:((∀ t,t<=ps.length->bh (b7 ms) (aK ps) t≠none)->∀ l zs ss H',ak H H'->H l=none->H' l=some (.lst zs)->ay (sO H') zs ss->ss.length=ps.length+1->(∀ t,t<=ps.length->fB ps.length (b7 ms) (aK ps) t=some (bU ss t))->Q (.ref l) H'))
theorem abj (T:Tx K mg):aL P w K mg base (aM P w) 4 T.lY T.Bx ["steps","marks"] (abi K):=by
 refine okN T.tQ Bh (fun vs H Q E h=>?_) (fun aI A outer s H vs Q E hr h=>?_)
 ·obtain⟨a,b,xs,ys,ps,ms,rfl,_⟩:=h
  rfl
 ·obtain⟨a,b,xs,ys,ps,ms,rfl,hS,hP,hT,hM,ao,hn,hm,q0,q⟩:=h
  refine⟨_,(aq (aD (i:=2) Bh.nd rfl (als rfl) (aF (Pl T) hr T.OW T.qQ T.wZ aB (ae (fq (di.mk (fr:=[1]) (ys:=["marks"]) rfl (by decide +kernel) rfl (by decide +kernel) rfl rfl (.cons rfl .nil) (.cons rfl rfl rfl rfl .nil) (by decide) rfl) rfl (fM rfl T.fe (ae (aE bc (bI dA (by rfl) T.dr df (ae (aa 0) ag)) af) ag)) (fun C s2 H2 ex pn=>⟨iB,(aF (Dk T) hr T.Bq T.lT T.tO aB (ae (aF (abh T) hr T.ZX T.tP T.Bw aB (ae (aa 1) (ae (aa 0) ag))) ag))⟩)) (ae (aa 0) ag))))
  (aq (aN (c8 (aa 2)) (ar (aG bR)) aO)
  (aq (L9 (i:=3) (di.mk (fr:=[]) (ys:=[]) rfl (by decide +kernel) rfl (by decide +kernel) rfl rfl .nil .nil (by decide) rfl) rfl Bh.nd rfl rfl (VB rfl T.aas (ae (aa 0) ag)) (fun C s2 H2 ex pn=>⟨iB,(bg (ae (gk gH (dF (K:=K) (aa 0) af)) (ae (gk gH (dF (K:=K) (aa 0) af)) ag)))⟩))
  (ar (aG (Nu (aF (Pl T) hr T.OW T.qQ T.wZ aB (ae (Nu (aa 2) (gk gH af)) (ae (aa 3) ag))) (gk gH af))))))),?_⟩
  have l1:=hP.len
  walk_at "gzn"
  refine⟨_,d9 hS,by lia,by lia,?_⟩
  rw[l1,show ((ps.length:Int)+1).toNat=ps.length+1 by lia]
  refine ft lg (by rw[ak8,alN];exact alp (by lia:_<=901) (by decide)) (iD (R:=fun _ x (k:Nat)=>x=V.int ((0:Int)+k)) (R':=cy) (f:=fun (k:Nat)=>b7 ms k) (fun _ _ _ _ _ h=>h) (fun _ _ _ _ s' h=>h.same s') (ay.gK _) (bs:=[]) trivial (fun _ _=>trivial) (fun x k _ H2 s2 r Q h=>?_) (fun x k _ H2 s2 r Q h=>?_) fun H2 zs s2 hz=>?_)
  ·walk_at "gzn"
   exact h
  ·subst r
   walk_at "gzn"
   rw[show (0:Int)+(k:Nat)=((k:Nat):Int) by lia]
   refine⟨b,ys,ms,k,rfl,s2.seq hT,hM.imp fun _ _ r=>r.same s2,hm,fun l zs H3 s3 hl hs=>?_⟩
   refine⟨l,zs,_,rfl,ah.of hl,hs,?_,fun v H4 s4 hv=>h H4 v (s3.trans s4) hv⟩
   rw[hs.len]
   unfold atT
   rw[ak8]
   exact alp (al8 _ _) hm
  rw[al3] at hz
  intro c hc
  have s3:=s2.trans (ax (o:=.lst zs) hc)
  have c3:upd H2 c (.lst zs) c=some (.lst zs):=au
  have dH:=hz.imp fun _ _ r=>r.same (ax (o:=.lst zs) hc)
  generalize upd H2 c (.lst zs)=H3 at s3 c3 dH ⊢
  clear hz hc s2
  have wl:((al4 (ps.length+1)).map fun (k:Nat)=>b7 ms k).length=ps.length+1:=by rw[ak8,alN]
  have we:∀ t,t<=ps.length->eo ((al4 (ps.length+1)).map fun (k:Nat)=>b7 ms k) t=b7 ms t:=fun t ht=>by
   unfold eo
   rw[ak4,alz,amQ (by lia)]
   rfl
  have ne:∀ t,t<=ps.length->bh (eo ((al4 (ps.length+1)).map fun (k:Nat)=>b7 ms k)) (aK ps) t=bh (b7 ms) (aK ps) t:=fun t ht=>AD t (fun k hk=>we k (by lia)) fun k _=>rfl
  refine⟨c,a,zs,xs,_,ps,rfl,ah.of c3,dH,s3.seq hS,hP.same s3,by rw[wl];exact alm _,by rw[wl];lia,fun t ht en H4 s4=>?_,fun bK l kx ss H4 s4 _ hl hz2 jd gf=>?_⟩
  ·rw[wl] at ht
   rw[ne t (by lia)] at en
   walk_at "gzn"
   exact q0 t (by lia) en _ (s3.trans s4)
  rw[wl] at bK gf jd
  have Pm:∀ t,t<=ps.length->bh (b7 ms) (aK ps) t≠none:=fun t ht z=>bK t (by lia) (by rw[ne t ht];exact z)
  have abk:∀ t,t<ps.length+1->bh (b7 ms) (aK ps) t=some (bU ss t):=fun t ht=>by rw[<- ne t (by lia)];exact gf t ht
  have TB:=Nq ao Pm
  have S4:=s3.trans s4
  walk_at "gzn"
  refine⟨xs,S4.seq hS,WW (alp (by lia:_<=900) (by decide)) (iD (R:=cw) (R':=cw) (f:=fun p=>(-p.2,-p.1)) (fun _ _ _ _ s' h=>h.same s') (fun _ _ _ _ s' h=>h.same s') (ay.rev (hP.same S4)) (bs:=[]) trivial (fun H' s'=>(S4.trans s').seq hS) (fun x k _ H2 s2 r Q h=>?_) (fun x k _ H2 s2 r Q h=>?_) fun H5 bs s5 hb=>?_)⟩
  ·walk_at "gzn"
   exact h
  ·obtain⟨t,rfl,ht⟩:=r
   walk_at "gzn"
   refine aA (aj.of ht) rfl ?_
   walk_at "gzn"
   refine aA (aj.of ht) rfl ?_
   walk_at "gzn"
   exact⟨bq,fun p hp=>h _ _ (ax hp) ⟨p,rfl,au⟩⟩
  rw[al3] at hb
  intro d hd
  have s6:=s5.trans (ax (o:=.lst bs) hd)
  have d6:upd H5 d (.lst bs) d=some (.lst bs):=au
  have Pn:cZ (upd H5 d (.lst bs)) bs (ju ps):=hb.imp fun _ _ r=>r.same (ax (o:=.lst bs) hd)
  generalize upd H5 d (.lst bs)=H6 at s6 d6 Pn ⊢
  clear hb hd s5
  refine⟨kx,ah.of (s6 _ _ hl),fun p hp=>?_⟩
  have s7:=s6.trans (ax (o:=.lst kx.reverse) hp)
  have p7:upd H6 p (.lst kx.reverse) p=some (.lst kx.reverse):=au
  have d7:=(ax (o:=.lst kx.reverse) hp) _ _ d6
  have Po:cZ (upd H6 p (.lst kx.reverse)) bs (ju ps):=Pn.same (ax (o:=.lst kx.reverse) hp)
  generalize upd H6 p (.lst kx.reverse)=H7 at s7 p7 d7 Po ⊢
  have rl:(ss.reverse.map some).length=ps.length+1:=by rw[ak8,amy,jd]
  have bl:(ju ps).length=ps.length:=by unfold ju;rw[ak8,amy]
  have be:∀ t,t<=ps.length->bh (eo (ss.reverse.map some)) (aK (ju ps)) t=fB ps.length (b7 ms) (aK ps) (ps.length-t):=fun t ht=>back_eq jd abk ht
  refine⟨p,d,_,bs,ss.reverse.map some,ju ps,rfl,ah.of p7,ay.M5 (ay.rev (hz2.imp fun _ _ r=>aV.same r s7)),ah.of d7,Po,by rw[rl,bl];exact alm _,by rw[rl];lia,fun t ht en H8 s8=>?_,fun _ l3 zs3 ss3 H8 s8 fl3 bC hz8 Dl Pq=>?_⟩
  ·rw[rl] at ht
   rw[be t (by lia)] at en
   obtain⟨z,ez,_⟩:=TB.ok (ps.length-t) (by lia)
   rw[en] at ez
   cases ez
  rw[rl] at Dl Pq
  have S8:=S4.trans (s7.trans s8)
  refine⟨l3,rfl,zs3,ah.of bC,fun p3 iV=>q Pm p3 _ ss3.reverse _ (S8.trans (ax iV)) (S8.free iV) au (ay.rev (hz8.imp fun _ _ r=>aV.same r (ax iV))) (by rw[amy,Dl]) fun t ht=>?_⟩
  rw[WN Dl ht,<- Pq (ps.length-t) (by lia),be _ (by lia),show ps.length-(ps.length-t)=t by lia]
end
section
seal L2.PE L2.PS L2.bw L2.PA
variable {P:alr} {w:alS} {K:ak2} {mg:Str->Option ak3} {base:amH}
inductive abl (K:ak2) (vs:List V) (H:Hp) (Q:VK) (a8:XK):Prop
 | mk (a b:ala) (xs ys:List V) (ps:List P2) (ms:List Mk) (_:vs=[.ref a,.ref b]) (_:ah K H a xs) (_:cZ H xs ps) (_:ah K H b ys) (_:ay (cD H) ys ms) (_:dN ps) (_:ps.length<=900) (_:ms.length<=1000) (_:(∀ m∈ms,m.1<=ps.length)) (_:((¬ ∃ c,j6 ps c/\meets ms c)->∀ H',ak H H'->Q .non H')) (_:(∀ l cs H',ak H H'->H l=none->H' l=some (.lst (cs.map V.int))->cs.length=ps.length+1->j6 ps (a7 cs)->meets ms (a7 cs)->Q (.ref l) H'))
inductive abm (H:Hp) (a b x l c:ala) (zs:List V) (ss:List S2) (ps:List P2) (ms:List Mk) (i:Nat) (σ:St) (H1:Hp):Prop
 | mk (cs:List Int) (e1 e2:Option V) (_:σ=[some (.ref a),some (.ref b),some (.ref x),some (.ref l),e1,e2]) (_:ak H H1) (_:H1 l=some (.lst (cs.map V.int))) (_:H1 c=some (.lst (zs.drop 1))) (_:ay (sO H1) zs ss) (_:cs.length=i+1) (_:(∀ t,t<=i->dO (fB ps.length (b7 ms) (aK ps) t) (a7 cs t))) (_:∀ k,k<i->(aK ps k).1<=a7 cs (k+1)-a7 cs k/\a7 cs (k+1)-a7 cs k<=(aK ps k).2)
theorem xM {cs:List Int} {n:Int} {t:Nat} (h:t<cs.length):a7 (cs++[n]) t=a7 cs t:=by
 unfold a7
 rw[ak4,ak4,al7 h]
theorem Pr {cs:List Int} {n:Int} {t:Nat} (h:cs.length=t):a7 (cs++[n]) t=n:=by
 unfold a7
 rw[ak4,amk (by lia),h,aqR]
 rfl
theorem abn {cs:List Int} {i:Nat} (h:cs.length=i+1):cB (cs.map V.int) (-1)=some (.int (a7 cs i)):=by
 have e:cs=cs.take i++[a7 cs i]:=by
  have:=amT i cs
  rw[amt (by lia),aoD (by lia)] at this
  unfold a7
  rw[ak4,ak9 (by lia)]
  exact this.symm
 have e2:cs.map V.int=(cs.take i).map V.int++[V.int (a7 cs i)]:=(congrArg (List.map V.int) e).trans (by rw[am3];rfl)
 rw[e2]
 exact KR _ _
theorem Pt {s:S2} (h:aY s.1 s.2=false):bL s (jk s):=Ar.mpr (VW h)
theorem Pu {ss:List S2} {i:Nat} (h:i<ss.length):ss[i]?=some (bU ss i):=by unfold bU;rw[ak4,ak9 h];rfl
theorem Dm {ps:List P2} {i:Nat} (h:i<ps.length):ps[i]?=some (aK ps i):=by unfold aK;rw[ak4,ak9 h];rfl
theorem abo (T:Tx K mg):aL P w K mg base (aM P w) 5 T.lZ T.Bz ["steps","marks"] (abl K):=by
 refine okN T.tR tJ (fun vs H Q E h=>?_) (fun aI A outer s H vs Q E hr h=>?_)
 ·obtain⟨a,b,xs,ys,ps,ms,rfl,_⟩:=h
  rfl
 ·obtain⟨a,b,xs,ys,ps,ms,rfl,hS,hP,hT,hM,ao,hn,hm,ht,q0,q⟩:=h
  refine⟨_,(aq (aD (i:=2) tJ.nd rfl (als rfl) (aF (abj T) hr T.ZY T.tQ T.By aB (ae (aa 0) (ae (aa 1) ag))))
  (aq (aN (c8 (aa 2)) (ar (aG bR)) aO)
  (aq (aD (i:=3) tJ.nd rfl (als rfl) (cF (ae (aF (Ph T) hr T.OU T.qO T.wX aB (ae (aw (aa 2) af) ag)) ag)))
  (aq (cO alU rfl (VH rfl T.aau (ae (aa 0) (ae (Tt TK (aa 2) (Ts af) Tr) ag))) (fK rfl (bW (bo (i:=4) tJ.nd rfl (als rfl)) (bW (bo (i:=5) tJ.nd rfl (als rfl)) fJ))) (ar (dw (i9 al0 amv amw kM (aa 3) (ae (aF (Ph T) hr T.OU T.qO T.wX aB (ae (aF (Dh T) hr T.Bo T.lR T.tN aB (ae (aa 5) (ae (aF (Pj T) hr T.OV T.qP T.wY aB (ae (bg (ae (aw (aa 3) (gk gH af)) (ae (aw (aa 3) (gk gH af)) ag))) (ae (aa 4) ag))) ag))) ag)) ag)))))
  (ar (aG (aa 3))))))),?_⟩
  have l1:=hP.len
  walk_at "gzn"
  refine⟨a,b,xs,ys,ps,ms,rfl,hS,hP,hT,hM,ao,hn,hm,fun t ht en H1 s1=>?_,fun bK x zs ss H1 s1 fx hx hz jd gf=>?_⟩
  ·walk_at "gzn"
   refine q0 ?_ _ s1
   rintro ⟨c,hc,jI⟩
   exact WL hc jI t ht en
  have TB:=Nq ao bK
  have zl:=hz.len
  have ok0:∀ t,t<=ps.length->aY (bU ss t).1 (bU ss t).2=false:=fun t ht=>by
   obtain⟨s,es,hs⟩:=TB.ok t ht
   rw[gf t ht] at es
   cases es
   exact hs
  walk_at "gzn"
  obtain⟨v0,uF,r0⟩:=hz.at (Pu (ss:=ss) (i:=0) (by lia))
  refine aP (ah.of hx) (dC (j:=0) uF) ?_
  refine⟨v0,bU ss 0,rfl,r0,by decide,fun l cE=>?_⟩
  have u1:=ax (o:=.lst [.int (jk (bU ss 0))]) cE
  have L1:upd H1 l (.lst [.int (jk (bU ss 0))]) l=some (.lst ([jk (bU ss 0)].map V.int)):=au
  have fl:=s1.free cE
  generalize upd H1 l (.lst [.int (jk (bU ss 0))])=H2 at u1 L1 ⊢
  refine⟨zs,ah.of (u1 _ _ hx),fun c hc=>?_⟩
  rw[show kK zs (some 1) none=zs.drop 1 from VT zs 1]
  have u2:=ax (o:=.lst (zs.drop 1)) hc
  have c3:upd H2 c (.lst (zs.drop 1)) c=some (.lst (zs.drop 1)):=au
  have lc:l≠c:=fun z=>by rw[<- z,L1] at hc;cases hc
  generalize upd H2 c (.lst (zs.drop 1))=H3 at u2 c3 ⊢
  have S3:=s1.trans (u1.trans u2)
  refine⟨⟨_,S3.seq hS⟩,⟨_,ah.of c3⟩,VN (xs:=xs) (ys:=zs.drop 1) (abm H a b x l c zs ss ps ms) ⟨[jk (bU ss 0)],_,_,rfl,S3,u2 _ _ L1,c3,hz.imp fun _ _ r=>aV.same r (u1.trans u2),rfl,fun t ht=>?_,fun k hk=>absurd hk (am5 _)⟩ ?_ ?_ ?_⟩
  ·obtain rfl:t=0:=by lia
   exact⟨_,gf 0 (by lia),Pt (ok0 0 (by lia))⟩
  ·rintro i σ H4 ⟨_,_,_,_,s4,_,c4,_⟩
   exact⟨s4.seq hS,ah.of c4⟩
  ·rintro i u v σ H4 p hu hv ⟨cs,d1,d2,rfl,s4,L4,c4,nE,bN,cH,cM⟩ hp
   have hi:i<ps.length:=by have:=(alj.mp hu).1;lia
   obtain⟨pt,ept,ru⟩:=hP.get hu
   rw[Dm hi] at ept
   cases ept
   rw[List.getElem?_drop,atg 1 i] at hv
   obtain⟨sv,esv,rv⟩:=nE.get hv
   rw[Pu (by lia)] at esv
   cases esv
   refine jY (aj.of au) ?_
   have up:=ax (o:=.tup [u,v]) hp
   generalize upd H4 p (.tup [u,v])=H5 at up ⊢
   have L5:=up _ _ L4
   walk_at "gzn"
   have lst:=abn bN
   refine⟨.inl ⟨rfl,_,ah.of L5⟩,aP (ah.of L5) lst (aP (ah.of L5) lst ⟨bq,fun t1 jH=>?_⟩)⟩
   have ut:=ax (o:=.tup [.int (a7 cs i),.int (a7 cs i)]) jH
   refine⟨.ref t1,u,(some (a7 cs i),some (a7 cs i)),aK ps i,rfl,⟨t1,rfl,au⟩,ru.same (s4.trans (up.trans ut)),fun r H6 s6 _ hr6=>?_⟩
   obtain⟨m,em,cC⟩:=WO TB hi (cH i (alm _)) (gf (i+1) (by lia))
   have rv6:=aV.same rv (up.trans (ut.trans s6))
   refine⟨v,.ref r,_,_,_,_,rfl,rv6,⟨r,rfl,hr6⟩,fun y H7 s7 hy=>?_⟩
   have cm:=Nd em
   have Pw:aY (cX (bU ss (i+1)).1 (eh (some (a7 cs i),some (a7 cs i)) (aK ps i)).1) (cY (bU ss (i+1)).2 (eh (some (a7 cs i),some (a7 cs i)) (aK ps i)).2)=false/\m=(cX (bU ss (i+1)).1 (eh (some (a7 cs i),some (a7 cs i)) (aK ps i)).1,cY (bU ss (i+1)).2 (eh (some (a7 cs i),some (a7 cs i)) (aK ps i)).2):=by
    unfold gD at em
    split at em
    ·cases em
    ·rename_i hc
     cases em
     exact⟨by simpa using hc,rfl⟩
   have xK:=hy.2 Pw.1
   refine⟨y,m,rfl,by rw[Pw.2];exact xK,?_⟩
   have S7:=up.trans (ut.trans (s6.trans s7))
   have L7:=S7 _ _ L4
   obtain⟨n1,n2,n3⟩:=cC _ (Pt cm)
   refine⟨_,L7,by rw[ak8];exact al9 (by lia:_<=1000) (by decide),cs++[jk m],_,_,rfl,fT fl (s4.trans S7),by rw[au,am3];rfl,by rw[aH (al5 lc)];exact S7 _ _ c4,nE.imp fun _ _ r=>aV.put (aV.same r S7) L7,by rw[alD,aly];lia,fun t ht=>?_,fun k hk=>?_⟩
   ·by_cases e:t=i+1
    ·subst e
     rw[Pr bN]
     exact n1
    ·rw[xM (by lia)]
     exact cH t (by lia)
   ·by_cases e:k=i
    ·subst e
     rw[Pr bN,xM (by lia)]
     exact⟨n2,n3⟩
    ·rw[xM (by lia),xM (by lia)]
     exact cM k (by lia)
  ·rintro σ H4 ⟨cs,d1,d2,rfl,s4,L4,c4,nE,bN,cH,cM⟩
   walk_at "gzn"
   rw[aqb,show min xs.length (zs.length-1)=ps.length by lia] at bN cH cM
   exact q l cs H4 s4 fl L4 bN cM (meets_of TB ht cH)
end
section
seal L2.PE L2.PS L2.bw L2.PA
variable {P:alr} {w:alS} {K:ak2} {mg:Str->Option ak3} {base:amH}
noncomputable def c9 (H:Hp) (v:V):Option P2->Prop
 | none=>v = .non
 | some p=>cw H v p
theorem c9.same {H H':Hp} {v:V} {o:Option P2} (h:c9 H v o) (s:ak H H'):c9 H' v o:=by
 cases o with
 | none=>exact h
 | some p=>exact cw.same h s
inductive abp (K:ak2) (vs:List V) (H:Hp) (Q:VK) (a8:XK):Prop
 | mk (v u:V) (a b:Option P2) (_:vs=[v,u]) (_:c9 H v a) (_:c9 H u b) (_:∀ x,c9 H x (iI a b)->(x=v∨x=u)->Q x H)
theorem Dp (T:Tx K mg):aL P w K mg base (aM P w) 1 T.l6 T.BB ["one","other"] (abp K):=by
 refine okN T.l8 Zw (fun vs H Q E h=>?_) (fun aI A outer s H vs Q E hr h=>?_)
 ·obtain⟨v,u,a,b,rfl,_⟩:=h
  rfl
 ·obtain⟨v,u,a,b,rfl,ha,hb,q⟩:=h
  refine⟨_,(aq (aN (PW.pt (cp (c8 (aa 0)) (dc (c8 (aa 1))))) (ar (aG (nZ (c8 (aa 0)) (aa 1) (aa 0)))) aO)
  (ar (aG (bI (Yd rfl (cQ hr)) (by rfl) T.rd ou (ae (aa 0) (ae (aa 1) ag)))))),?_⟩
  rcases a with _|a<;>rcases b with _|b
  ·obtain rfl:v = .non:=ha
   obtain rfl:u = .non:=hb
   walk_at "gzn"
   exact q _ rfl (.inl rfl)
  ·obtain rfl:v = .non:=ha
   obtain⟨r,rfl,dG⟩:=id hb
   walk_at "gzn"
   exact q _ hb (.inr rfl)
  ·obtain rfl:u = .non:=hb
   obtain⟨r,rfl,dG⟩:=id ha
   walk_at "gzn"
   exact q _ ha (.inl rfl)
  ·obtain⟨r,rfl,dG⟩:=id ha
   obtain⟨r2,rfl,Dq⟩:=id hb
   walk_at "gzn"
   refine⟨a,dG,b,Dq,?_⟩
   by_cases hl:eQ b a=true
   ·rw[if_pos hl]
    exact q _ (by show cw H _ (eR a b);unfold eR;rw[if_pos hl];exact hb) (.inr rfl)
   ·rw[if_neg hl]
    exact q _ (by show cw H _ (eR a b);unfold eR;rw[if_neg hl];exact ha) (.inl rfl)
inductive abq (K:ak2) (vs:List V) (H:Hp) (Q:VK) (a8:XK):Prop
 | mk (v:V) (a:Option P2) (b:Int) (_:vs=[v,.int b]) (_:c9 H v a) (_:∀ x H',ak H H'->c9 H' x (oT a b)->Q x H')
theorem Px (T:Tx K mg):aL P w K mg base (aM P w) 1 T.md T.BD ["one","by"] (abq K):=by
 refine okN T.qR Zx (fun vs H Q E h=>?_) (fun aI A outer s H vs Q E hr h=>?_)
 ·obtain⟨v,a,b,rfl,_⟩:=h
  rfl
 ·obtain⟨v,a,b,rfl,ha,q⟩:=h
  refine⟨_,(ar (aG (nZ (c8 (aa 0)) bR (bg (ae (aE bc (aw (aa 0) af) (aa 1)) (ae (aw (aa 0) af) ag)))))),?_⟩
  rcases a with _|a
  ·obtain rfl:v = .non:=ha
   walk_at "gzn"
   exact q _ _ (ak.refl _) rfl
  ·obtain⟨r,rfl,dG⟩:=id ha
   walk_at "gzn"
   refine aA (aj.of dG) rfl ?_
   walk_at "gzn"
   refine aA (aj.of dG) rfl ⟨bq,fun p hp=>q _ _ (ax hp) ⟨p,rfl,au⟩⟩
inductive abr (K:ak2) (vs:List V) (H:Hp) (Q:VK) (a8:XK):Prop
 | mk (a b:ala) (xs ys:List V) (ps:List P2) (ms:List Mk) (_:vs=[.ref a,.ref b]) (_:ah K H a xs) (_:cZ H xs ps) (_:ah K H b ys) (_:ay (cD H) ys ms) (_:dN ps) (_:ps.length<=900) (_:ms.length<=1000) (_:(∀ m∈ms,m.1<=ps.length)) (_:∀ l zs ts H',ak H H'->H l=none->H' l=some (.lst zs)->ay (c9 H') zs ts->ts.length=ps.length+1->jr ps ms (c7 ts)->Q (.ref l) H')
inductive nF (P:Nat->(Nat->Option P2)->Prop) (H:Hp) (a b l:ala) (n:Nat) (i:Nat) (σ:St) (H1:Hp):Prop
 | mk (zs:List V) (ts:List (Option P2)) (e1 e2 e3:Option V) (_:σ=[some (.ref a),some (.ref b),some (.ref l),e1,e2,e3]) (_:ak H H1) (_:H1 l=some (.lst zs)) (_:ay (c9 H1) zs ts) (_:ts.length=n+1) (_:P i (c7 ts))
theorem c9.put {H:Hp} {v:V} {o:Option P2} {l:ala} {ys zs:List V} (h:c9 H v o) (hl:H l=some (.lst ys)):c9 (upd H l (.lst zs)) v o:=by
 cases o with
 | none=>exact h
 | some p=>exact cw.put h hl
theorem ay.Py {α:Type} {R:V->α->Prop} {x:V} {a:α} (r:R x a):∀ {xs:List V} {as:List α} (j:Nat),ay R xs as->ay R (xs.set j x) (as.set j a)
 | [],[],_,_=>trivial
 | _::_,_::_,0,h=>⟨r,h.2⟩
 | _::_,_::_,j+1,h=>⟨h.1,ay.Py r j h.2⟩
 | [],_::_,_,h=>h.elim
 | _::_,[],_,h=>h.elim
theorem rk {H:Hp} {zs:List V} {ts:List (Option P2)} {t:Nat} (h:ay (c9 H) zs ts) (ht:t<ts.length):∃ v,cB zs (t:Int)=some v/\c9 H v (c7 ts t):=by
 obtain⟨v,hv,r⟩:=h.at (ak9 ht)
 refine⟨v,dC hv,?_⟩
 unfold c7
 rw[ak4,ak9 ht]
 exact r
theorem Dr {n t:Nat} (h:t<n):gT n (t:Int)=some t:=by
 unfold gT
 rw[if_pos (by lia),if_pos (by lia),al1]
theorem Ds {P:Nat->(Nat->Option P2)->Prop} {H:Hp} {a b l:ala} {n i:Nat} {zs:List V} {ts:List (Option P2)} {H1:Hp} {v:V} {x:Option P2} {t:Nat} {d1 d2 d3:Option V} (cE:H l=none) (s:ak H H1) (hl:H1 l=some (.lst zs)) (hz:ay (c9 H1) zs ts) (hlen:ts.length=n+1) (hv:c9 H1 v x) (ht:t<n+1) (hP:P i (iJ (c7 ts) t x)):nF P H a b l n i [some (.ref a),some (.ref b),some (.ref l),d1,d2,d3] (upd H1 l (.lst (zs.set t v))) :=
 ⟨zs.set t v,ts.set t x,d1,d2,d3,rfl,fT cE s,au,(ay.Py hv t hz).imp fun _ _ r=>r.put hl,by rw[asp];exact hlen,by rw[WQ (by lia)];exact hP⟩
theorem abt (n:Nat):jX ((n:Int)-1) (-1) (-1)=n:=by
 unfold jX amf
 simp only[show ¬ ((-1:Int) > 0) by lia,if_false,show (- (-1:Int))=1 by lia,atf]
 split<;>lia
theorem abu (T:Tx K mg):aL P w K mg base (aM P w) 2 T.me T.BE ["steps","marks"] (abr K):=by
 refine okN T.tT qH (fun vs H Q E h=>?_) (fun aI A outer s H vs Q E hr h=>?_)
 ·obtain⟨a,b,xs,ys,ps,ms,rfl,_⟩:=h
  rfl
 ·obtain⟨a,b,xs,ys,ps,ms,rfl,hS,hP,hT,hM,ao,hn,hm,ht,q⟩:=h
  refine⟨_,(aq (L9 (i:=2) (di.mk (fr:=[]) (ys:=[]) rfl (by decide +kernel) rfl (by decide +kernel) rfl rfl .nil .nil (by decide) rfl) rfl qH.nd rfl rfl (fM rfl T.fe (ae (aE bc (bI dA (by rfl) T.dr df (ae (aa 0) ag)) af) ag)) (fun C s2 H2 ex pn=>⟨iB,bR⟩))
  (aq (cO alU rfl (z9 rfl T.xE (ae (aa 1) ag)) (fK rfl (bW (bo (i:=3) qH.nd rfl (als rfl)) (bW (bo (i:=4) qH.nd rfl (als rfl)) fJ))) (ar (aN (dE (aw (aw (aa 4) af) af)) (ar (vy (aF (Dp T) hr T.BC T.l8 T.tS aB (ae (aw (aa 2) (aw (aa 4) af)) (ae (bg (ae (aw (aw (aa 4) af) af) (ae (aa 3) ag))) ag))) (yG (aa 2) (aw (aa 4) af) set_list))) aO)))
  (aq (cO alU rfl (fM rfl T.fe (ae (bI dA (by rfl) T.dr df (ae (aa 0) ag)) ag)) (bo (i:=5) qH.nd rfl (als rfl)) (ar (vy (aF (Dp T) hr T.BC T.l8 T.tS aB (ae (aw (aa 2) (aE bc (aa 5) af)) (ae (aF (Px T) hr T.OX T.qR T.w5 aB (ae (aw (aa 2) (aa 5)) (ae (aw (aw (aa 0) (aa 5)) af) ag))) ag))) (yG (aa 2) (aE bc (aa 5) af) set_list))))
  (aq (cO alU rfl (Vu rfl T.fe (ae (aE dQ (bI dA (by rfl) T.dr df (ae (aa 0) ag)) af) (ae (gk gH af) (ae (gk gH af) ag)))) (bo (i:=5) qH.nd rfl (als rfl)) (ar (vy (aF (Dp T) hr T.BC T.l8 T.tS aB (ae (aw (aa 2) (aa 5)) (ae (aF (Px T) hr T.OX T.qR T.w5 aB (ae (aw (aa 2) (aE bc (aa 5) af)) (ae (gk gH (aw (aw (aa 0) (aa 5)) af)) ag))) ag))) (yG (aa 2) (aa 5) set_list))))
  (ar (aG (aa 2))))))),?_⟩
  have l1:=hP.len
  have l2:=hM.len
  refine aJ (fun σ H1=>∃ l,σ=[some (.ref a),some (.ref b),some (.ref l),none,none,none]/\ak H H1/\H l=none/\H1 l=some (.lst (aod (ps.length+1) .non))) (fun N hN=>?_) ?_
  ·walk_at "gzn"
   refine⟨_,d9 hS,by lia,by lia,?_⟩
   rw[l1,show ((ps.length:Int)+1).toNat=ps.length+1 by lia]
   refine ft lg (by rw[ak8,alN];exact alp (by lia:_<=901) (by decide)) (vP (p:=fun _=>true) (f:=fun _=>.non) trivial (fun x _ Q h=>?_) (fun x _ _ Q h=>?_) ?_)
   ·walk_at "gzn"
    exact h
   ·walk_at "gzn"
    exact h
   rw[al3,filter_tt]
   intro l hl
   refine hN _ _ ⟨l,rfl,ax hl,hl,?_⟩
   rw[au]
   congr 2
   refine aoP fun k=>?_
   rw[alz,alz,aou]
   by_cases hk:k<ps.length+1
   ·rw[amQ hk,if_pos hk];rfl
   ·rw[am4 (by rw[alN];lia),if_neg hk];rfl
  rintro σ H1 ⟨l,rfl,s1,cE,oY⟩
  refine aJ (nF (T1 ps ms) H a b l ps.length ms.length) (fun N hN=>?_) ?_
  ·walk_at "gzn"
   refine⟨⟨_,s1.seq hT⟩,Ac (xs:=ys) (nF (T1 ps ms) H a b l ps.length) ⟨_,aod (ps.length+1) none,_,_,_,rfl,s1,oY,?_,by rw[aqD],by rw[WR];exact T1.nil⟩ ?_ ?_ ?_⟩
   ·have:∀ k,ay (c9 H1) (aod k .non) (aod k none):=fun k=>by
     induction k with
     | zero=>exact trivial
     | succ k ih=>exact⟨rfl,ih⟩
    exact this _
   ·rintro i σ H2 _ ⟨_,_,_,_,_,_,s2,_⟩
    exact s2.seq hT
   ·rintro i x σ H2 p hx ⟨zs,ts,d1,d2,d3,rfl,s2,b5,hz,fH,jJ⟩ hp
    obtain⟨m,nG,tp,sp,rfl,h1,h2⟩:=hM.get hx
    have jI:=ht m (alx nG)
    have up:=ax (o:=.tup [.int i,.ref tp]) hp
    refine jY (aj.of au) ?_
    generalize upd H2 p (.tup [.int i,.ref tp])=H3 at up ⊢
    have s3:=s2.trans up
    have g1:=s3 _ _ h1
    have g2:=s3 _ _ h2
    have bC:=up _ _ b5
    have dH:=hz.imp fun _ _ r=>r.same up
    obtain⟨mt,lo,hi⟩:=m
    walk_at "gzn"
    refine aA (aj.of g1) rfl (aA (aj.of g2) rfl ?_)
    cases hi with
    | none =>
     walk_at "gzn"
     exact⟨zs,ts,_,_,_,rfl,s3,bC,dH,fH,jJ.skip nG rfl⟩
    | some h =>
     walk_at "gzn"
     obtain⟨v,hv,rv⟩:=rk dH (t:=mt) (by dsimp only at jI;lia)
     refine aA (aj.of g1) rfl (aP (ah.of bC) hv (aA (aj.of g1) rfl (aA (aj.of g2) rfl ?_)))
     walk_at "gzn"
     refine⟨bq,fun t1 jH=>?_⟩
     have ut:=ax (o:=.tup [.int h,.int i]) jH
     have S4:=s3.trans ut
     refine⟨v,.ref t1,_,some (h,(i:Int)),rfl,rv.same ut,⟨t1,rfl,au⟩,fun y hy _=>?_⟩
     refine aA (aj.of (ut _ _ g1)) rfl ?_
     exact⟨zs,_,rfl,ut _ _ bC,mt,Dr (by rw[hz.len,fH];dsimp only at jI;lia),Ds cE S4 (ut _ _ bC) (dH.imp fun _ _ r=>r.same ut) fH hy (by dsimp only at jI;lia) (jJ.put nG rfl)⟩
   ·rintro σ H2 h
    rw[l2] at h
    exact hN _ _ h
  rintro σ H2 h2
  refine aJ (nF (T2 ps ms) H a b l ps.length ps.length) (fun N hN=>?_) ?_
  ·obtain⟨zs,ts,d1,d2,d3,rfl,s2,b5,hz,fH,jJ⟩:=h2
   walk_at "gzn"
   refine⟨_,d9 (s2.seq hS),?_⟩
   rw[l1]
   refine⟨by lia,by lia,?_⟩
   rw[al1]
   refine kR (nF (T2 ps ms) H a b l ps.length) ⟨zs,ts,d1,d2,d3,rfl,s2,b5,hz,fH,jJ.two⟩ ?_ (fun σ H3 h=>hN _ _ h)
   rintro i σ H3 hi ⟨zs,ts,d1,d2,d3,rfl,s3,bC,dH,fH,hT2⟩
   have zl:=dH.len
   obtain⟨v,hv,rv⟩:=rk dH (t:=i+1) (by lia)
   obtain⟨u,hu,ru⟩:=rk dH (t:=i) (by lia)
   obtain⟨w,hw,tw,rfl,nH⟩:=hP.at (Dm hi)
   walk_at "gzn"
   rw[show (0:Int)+(i:Int)=((i:Nat):Int) by lia,show ((i:Nat):Int)+1=((i+1:Nat):Int) by lia]
   refine aP (ah.of bC) hv (aP (ah.of bC) hu (aP (s3.seq hS) (dC hw) (aA (aj.of (s3 _ _ nH)) rfl ?_)))
   refine⟨u,_,_,rfl,ru,fun y H4 s4 hy=>?_⟩
   refine⟨v,y,_,_,rfl,rv.same s4,hy,fun z Dt _=>?_⟩
   exact⟨zs,s4 _ _ bC,i+1,Dr (by lia),Ds cE (s3.trans s4) (s4 _ _ bC) (dH.imp fun _ _ r=>r.same s4) fH Dt (by lia) (hT2.step ao ht hi)⟩
  rintro σ H3 h3
  refine aJ (nF (fun i=>T3 ps ms (ps.length-i)) H a b l ps.length ps.length) (fun N hN=>?_) ?_
  ·obtain⟨zs,ts,d1,d2,d3,rfl,s2,b5,hz,fH,jJ⟩:=h3
   walk_at "gzn"
   refine⟨_,d9 (s2.seq hS),?_⟩
   rw[l1,abt]
   refine⟨by lia,by lia,Vy (nF (fun i=>T3 ps ms (ps.length-i)) H a b l ps.length) ⟨zs,ts,d1,d2,d3,rfl,s2,b5,hz,fH,jJ.three⟩ ?_ (fun σ H3 h=>hN _ _ h)⟩
   rintro i σ H3 hi ⟨zs,ts,d1,d2,d3,rfl,s3,bC,dH,fH,nI⟩
   have zl:=dH.len
   obtain⟨j,hj⟩:∃ j,ps.length=j+1+i:=⟨ps.length-1-i,by lia⟩
   obtain⟨v,hv,rv⟩:=rk dH (t:=j+1) (by lia)
   obtain⟨u,hu,ru⟩:=rk dH (t:=j) (by lia)
   obtain⟨w,hw,tw,rfl,nH⟩:=hP.at (Dm (ps:=ps) (i:=j) (by lia))
   walk_at "gzn"
   rw[show (ps.length:Int)-1+(i:Int) * -1=((j:Nat):Int) by lia,show ((j:Nat):Int)+1=((j+1:Nat):Int) by lia]
   refine aP (ah.of bC) hu (aP (ah.of bC) hv (aP (s3.seq hS) (dC hw) (aA (aj.of (s3 _ _ nH)) rfl ?_)))
   walk_at "gzn"
   refine⟨v,_,_,rfl,rv,fun y H4 s4 hy=>?_⟩
   refine⟨u,y,_,_,rfl,ru.same s4,hy,fun z Dt _=>?_⟩
   refine⟨zs,s4 _ _ bC,j,Dr (by lia),Ds cE (s3.trans s4) (s4 _ _ bC) (dH.imp fun _ _ r=>r.same s4) fH Dt (by lia) ?_⟩
   show T3 ps ms (ps.length-(i+1)) _
   rw[show ps.length-(i+1)=j by lia]
   have nI:T3 ps ms (ps.length-i) (c7 ts):=nI
   rw[show ps.length-i=j+1 by lia] at nI
   exact nI.step ao ht (by lia)
  rintro σ H4 ⟨zs,ts,d1,d2,d3,rfl,s4,ie,nE,fH,Pz⟩
  rw[aqR] at Pz
  walk_at "gzn"
  exact q l zs ts H4 s4 cE ie nE fH Pz.tops
end
section
seal L2.PE L2.PS L2.bw L2.PA
variable {P:alr} {w:alS} {K:ak2} {mg:Str->Option ak3} {base:amH}
inductive abv (K:ak2) (vs:List V) (H:Hp) (Q:VK) (a8:XK):Prop
 | mk (a b:ala) (zs ys:List V) (ts:List (Option P2)) (ms:List Mk) (_:vs=[.ref a,.ref b]) (_:ah K H a zs) (_:ay (c9 H) zs ts) (_:ah K H b ys) (_:ay (cD H) ys ms) (_:(∀ m∈ms,m.1<ts.length)) (_:(sT ms (c7 ts)->∀ H',ak H H'->Q .non H')) (_:(∀ (j:Nat) m l v k,ms[j]?=some m->m.2.1=some l->c7 ts m.1=some (v,k)->v<l->∀ p H',ak H H'->H p=none->H' p=some (.tup [.int k,.int j])->Q (.ref p) H'))
inductive abw (H:Hp) (a b:ala) (ts:List (Option P2)) (ms:List Mk) (i:Nat) (σ:St) (H1:Hp):Prop
 | mk (e1 e2 e3:Option V) (_:σ=[some (.ref a),some (.ref b),e1,e2,e3]) (_:ak H H1) (_:sT (ms.take i) (c7 ts))
theorem abx (T:Tx K mg):aL P w K mg base (aM P w) 1 T.mf T.BG ["tops","marks"] (abv K):=by
 refine okN T.tU wR (fun vs H Q E h=>?_) (fun aI A outer s H vs Q E hr h=>?_)
 ·obtain⟨a,b,zs,ys,ts,ms,rfl,_⟩:=h
  rfl
 ·obtain⟨a,b,zs,ys,ts,ms,rfl,hA,hZ,hT,hM,ht,q0,q⟩:=h
  refine⟨_,(aq (cO alU rfl (z9 rfl T.xE (ae (aa 1) ag)) (fK rfl (bW (bo (i:=2) wR.nd rfl (als rfl)) (bW (bo (i:=3) wR.nd rfl (als rfl)) fJ))) (aq (aD (i:=4) wR.nd rfl (als rfl) (aw (aa 0) (aw (aa 3) af)))
   (ar (aN (PW.pt (dv (dE (aa 4)) (dv (dE (aw (aw (aa 3) af) af)) (dU (ib (aw (aw (aa 3) af) af) (aw (aa 4) af)))))) (ar (aG (bg (ae (aw (aa 4) af) (ae (aa 2) ag))))) aO))))
  (ar (aG bR))),?_⟩
  have l1:=hZ.len
  have l2:=hM.len
  walk_at "gzn"
  refine⟨⟨_,hT⟩,Ac (xs:=ys) (abw H a b ts ms) ⟨_,_,_,rfl,ak.refl _,fun m h=>by simp at h⟩ ?_ ?_ ?_⟩
  ·rintro i σ H2 _ ⟨_,_,_,_,s2,_⟩
   exact s2.seq hT
  ·rintro i x σ H2 p hx ⟨d1,d2,d3,rfl,s2,cI⟩ hp
   obtain⟨m,nG,tp,sp,rfl,h1,h2⟩:=hM.get hx
   have jI:=ht m (alx nG)
   have up:=ax (o:=.tup [.int i,.ref tp]) hp
   refine jY (aj.of au) ?_
   generalize upd H2 p (.tup [.int i,.ref tp])=H3 at up ⊢
   have s3:=s2.trans up
   have g1:=s3 _ _ h1
   have g2:=s3 _ _ h2
   have next:(∀ l v k,m.2.1=some l->c7 ts m.1=some (v,k)->l<=v)->sT (ms.take (i+1)) (c7 ts):=fun hh n hn=>by
    rw[amK,nG] at hn
    rcases alK.mp hn with z|z
    ·exact cI n z
    ·obtain rfl:n=m:=by simpa using z
     exact hh
   obtain⟨v,hv,rv⟩:=rk hZ jI
   obtain⟨mt,lo,hi⟩:=m
   walk_at "gzn"
   refine aA (aj.of g1) rfl (aP (s3.seq hA) hv ?_)
   cases et:c7 ts mt with
   | none =>
    rw[show c7 ts (mt,lo,hi).1=none from et] at rv
    obtain rfl:v = .non:=rv
    walk_at "gzn"
    exact⟨_,_,_,rfl,s3,next fun l v k _ e=>by rw[show c7 ts (mt,lo,hi).1=none from et] at e;cases e⟩
   | some q2 =>
    obtain⟨w,k⟩:=q2
    rw[show c7 ts (mt,lo,hi).1=some (w,k) from et] at rv
    obtain⟨rt,rfl,hrt⟩:=rv
    walk_at "gzn"
    refine aA (aj.of g1) rfl (aA (aj.of g2) rfl ?_)
    cases lo with
    | none =>
     walk_at "gzn"
     exact⟨_,_,_,rfl,s3,next fun l v k e _=>by cases e⟩
    | some l =>
     walk_at "gzn"
     refine aA (aj.of g1) rfl (aA (aj.of g2) rfl (aA (aj.of (s3 _ _ hrt)) rfl ?_))
     walk_at "gzn"
     refine bb (fun hc=>?_) fun hc=>?_
     ·exact aA (aj.of (s3 _ _ hrt)) rfl ⟨bq,fun r cz=>q i _ l w k nG rfl et hc r _ (s3.trans (ax cz)) (s3.free cz) au⟩
     ·exact⟨_,_,_,rfl,s3,next fun l' v' k' e1 e2=>by
       cases e1
       rw[show c7 ts (mt,some l,hi).1=some (w,k) from et] at e2
       cases e2
       lia⟩
  ·rintro σ H2 ⟨d1,d2,d3,rfl,s2,cI⟩
   walk_at "gzn"
   rw[l2,amO] at cI
   exact q0 cI _ s2
end
section
seal L2.PE L2.PS L2.bw L2.PA
variable {P:alr} {w:alS} {K:ak2} {mg:Str->Option ak3} {base:amH}
inductive dR (H:Hp) (v:V) (c:Cl):Prop
 | mk (t a b:ala) (_:v = .ref t) (_:H t=some (.tup [.ref a,.ref b])) (_:H a=some (.tup [ev c.1.1,.int c.1.2])) (_:H b=some (.tup [ev c.2.1,.int c.2.2]))
theorem dR.same {H H':Hp} {v:V} {r:Cl} (h:dR H v r) (s:ak H H'):dR H' v r:=let ⟨t,a,b,e,h1,h2,h3⟩:=h;⟨t,a,b,e,s _ _ h1,s _ _ h2,s _ _ h3⟩
theorem dR.put {H:Hp} {v:V} {r:Cl} {l:ala} {ys:List V} {o:HO} (h:dR H v r) (hl:H l=some (.lst ys)):dR (upd H l o) v r:=by
 obtain⟨t,a,b,e,h1,h2,h3⟩:=h
 have nl:∀ (z:ala) (vs:List V),H z=some (.tup vs)->z≠l:=fun z vs e1 e2=>by rw[e2,hl] at e1;cases e1
 exact⟨t,a,b,e,by rw[aH (nl _ _ h1)];exact h1,by rw[aH (nl _ _ h2)];exact h2,by rw[aH (nl _ _ h3)];exact h3⟩
theorem aby {H H':Hp} {v:V} {o:Option P2} {l:ala} {ys:List V} (h:c9 H v o) (hl:H l=some (.lst ys)) (k:∀ b o,b≠l->H b=some o->H' b=some o):c9 H' v o:=by
 cases o with
 | none=>exact h
 | some p =>
  obtain⟨t,e,a⟩:=h
  exact⟨t,e,k _ _ (fun z=>by rw[z,hl] at a;cases a) a⟩
inductive rn (ps:List P2) (gs:List Gp) (i j:Nat) (H:Hp) (l:ala):Prop
 | mk (zs:List V) (cs:List Cl) (_:H l=some (.lst zs)) (_:ay (dR H) zs cs) (_:cs.length<=8 * i+j) (_:wF ps gs cs) (_:∀ i' j' g h,gs[i']?=some g->gs[j']?=some h->(i'<i∨(i'=i/\j'<j))->iN ps g h cs)
theorem rn.same {ps:List P2} {gs:List Gp} {i j:Nat} {H H':Hp} {l:ala} (h:rn ps gs i j H l) (s:ak H H'):rn ps gs i j H' l:=let ⟨zs,cs,a,b,c1,c2,c3⟩:=h;⟨zs,cs,s _ _ a,b.imp fun _ _ x=>x.same s,c1,c2,c3⟩
inductive abz (K:ak2) (vs:List V) (H:Hp) (Q:VK) (a8:XK):Prop
 | mk (a b:ala) (xs ys:List V) (ps:List P2) (gs:List Gp) (_:vs=[.ref a,.ref b]) (_:ah K H a xs) (_:cZ H xs ps) (_:dN ps) (_:ps.length<=900) (_:ah K H b ys) (_:ay (rh H) ys gs) (_:gs.length<=8) (_:(∀ g∈gs,g.2.length<=1000/\∀ m∈g.2,m.1<=ps.length)) (_:∀ l zs cs H',ak H H'->H l=none->H' l=some (.lst zs)->ay (dR H') zs cs->cs.length<=64->wF ps gs cs->(∀ g∈gs,∀ h∈gs,iN ps g h cs)->Q (.ref l) H')
inductive PB (H:Hp) (a b l:ala) (ps:List P2) (gs:List Gp) (i:Nat) (σ:St) (H1:Hp):Prop
 | mk (e1 e2 e3 e4 e5 e6:Option V) (_:σ=[some (.ref a),some (.ref b),some (.ref l),e1,e2,e3,e4,e5,e6]) (_:ak H H1) (_:rn ps gs i 0 H1 l)
inductive clN (H H0:Hp) (a b l:ala) (nm mk tp:V) (ps:List P2) (gs:List Gp) (i j:Nat) (σ:St) (H1:Hp):Prop
 | mk (e4 e5 e6:Option V) (_:σ=[some (.ref a),some (.ref b),some (.ref l),some nm,some mk,some tp,e4,e5,e6]) (_:ak H H1) (_:(∀ b o,b≠l->H0 b=some o->H1 b=some o)) (_:rn ps gs i j H1 l)
theorem abA (T:Tx K mg):aL P w K mg base (aM P w) 3 T.mx T.BY ["steps","groups"] (abz K):=by
 refine okN T.t6 kj (fun vs H Q E h=>?_) (fun aI A outer s H vs Q E hr h=>?_)
 ·obtain⟨a,b,xs,ys,ps,gs,rfl,_⟩:=h
  rfl
 ·obtain⟨a,b,xs,ys,ps,gs,rfl,hS,hP,ao,hn,hG,hA,h7,hm,q⟩:=h
  refine⟨_,(aq (aD (i:=2) kj.nd rfl (als rfl) (cF ag))
  (aq (cO alU rfl (eI (aa 1)) (fK rfl (bW (bo (i:=3) kj.nd rfl (als rfl)) (bW (bo (i:=4) kj.nd rfl (als rfl)) fJ))) (aq (aD (i:=5) kj.nd rfl (als rfl) (aF (abu T) hr T.Z0 T.tT T.BF aB (ae (aa 0) (ae (aa 4) ag))))
    (ar (cO alU rfl (eI (aa 1)) (fK rfl (bW (bo (i:=6) kj.nd rfl (als rfl)) (bW (bo (i:=7) kj.nd rfl (als rfl)) fJ))) (aq (aD (i:=8) kj.nd rfl (als rfl) (aF (abx T) hr T.Z1 T.tU T.BH aB (ae (aa 5) (ae (aa 7) ag))))
      (ar (aN (dE (aa 8)) (ar (dw (i9 al0 amv amw kM (aa 2) (ae (bg (ae (bg (ae (aa 3) (ae (aw (aw (aa 4) (aw (aa 8) af)) af) ag))) (ae (bg (ae (aa 6) (ae (aw (aw (aa 7) (aw (aa 8) af)) af) ag))) ag))) ag)))) aO)))))))
  (ar (aG (aa 2))))),?_⟩
  have yl:=hA.len
  refine aJ (fun σ H1=>∃ l,σ=[some (.ref a),some (.ref b),some (.ref l),none,none,none,none,none,none]/\ak H H1/\H l=none/\H1 l=some (.lst [])) (fun N hN=>?_) ?_
  ·walk_at "gzn"
   exact⟨by decide,fun l hl=>hN _ _ ⟨l,rfl,ax hl,hl,au⟩⟩
  rintro σ H1 ⟨l,rfl,s1,fl,hl⟩
  refine aJ (fun σ H2=>PB H a b l ps gs ys.length σ H2) (fun N hN=>?_) ?_
  ·walk_at "gzn"
   refine⟨⟨_,s1.seq hG⟩,jc (xs:=ys) (PB H a b l ps gs) ⟨_,_,_,_,_,_,rfl,s1,[],[],hl,trivial,alv _,fun _ h=>(nomatch h),fun _ _ _ _ _ _ h=>by lia⟩ ?_ ?_ (fun σ H' h=>hN _ _ h)⟩
   ·rintro i σ H2 _ ⟨_,_,_,_,_,_,_,s2,_⟩
    exact s2.seq hG
   ·rintro i x σ H2 hx ⟨_,_,_,_,_,_,rfl,s2,h2⟩
    obtain⟨r,hr,gg,k,zs,rfl,h3,h4,h5⟩:=hA.get hx
    have Du:=hm r (alx hr)
    refine jY (aj.of (s2 _ _ h3)) ?_
    walk_at "gzn"
    refine⟨a,k,xs,zs,ps,r.2,rfl,s2.seq hS,hP.same s2,ah.of (s2 _ _ h4),h5.imp fun _ _ x=>x.same s2,ao,hn,Du.1,Du.2,fun tp us ts H3 s3 PD htp hts fH TT=>?_⟩
    have S3:=s2.trans s3
    walk_at "gzn"
    refine⟨⟨_,S3.seq hG⟩,jc (xs:=ys) (clN H H3 a b l (ev r.1) (.ref k) (.ref tp) ps gs i) ⟨_,_,_,rfl,S3,fun _ _ _ e=>e,h2.same s3⟩ ?_ ?_ ?_⟩
    ·rintro j σ H4 _ ⟨_,_,_,_,s4,_,_⟩
     exact s4.seq hG
    ·rintro j y σ H4 hy ⟨_,_,_,rfl,s4,b4,ws,cs,h6,nJ,h8,h9,rq⟩
     obtain⟨r',xN,gg',k',xO,rfl,g3,g4,g5⟩:=hA.get hy
     have Dv:=hm r' (alx xN)
     obtain⟨ls,_,hls,_⟩:=h2
     have tpl:tp≠l:=fun z=>by rw[z,hls] at PD;cases PD
     have xP:=b4 _ _ tpl htp
     have nE:=hts.imp fun _ _ x=>aby x (s3 _ _ hls) b4
     have ky:∀ xQ:List Cl,(∀ i' j' g h,gs[i']?=some g->gs[j']?=some h->(i'<i∨(i'=i/\j'<j))->iN ps g h xQ)->iN ps r r' xQ->∀ i' j' g h,gs[i']?=some g->gs[j']?=some h->(i'<i∨(i'=i/\j'<j+1))->iN ps g h xQ:=fun xQ h11 h12 i' j' g h a1 a2 a3=>by
      by_cases hz:i'=i/\j'=j
      ·obtain⟨rfl,rfl⟩:=hz
       rw[hr] at a1
       rw[xN] at a2
       cases a1
       cases a2
       exact h12
      ·exact h11 i' j' g h a1 a2 (by lia)
     refine jY (aj.of (s4 _ _ g3)) ?_
     walk_at "gzn"
     refine⟨tp,k',us,xO,ts,r'.2,rfl,ah.of xP,nE,ah.of (s4 _ _ g4),g5.imp fun _ _ x=>x.same s4,fun m cC=>by have:=Dv.2 m cC;lia,fun cI H5 s5=>?_,fun jj m lo v kk e1 e2 e3 e4 p H5 s5 fp hp=>?_⟩
     ·walk_at "gzn"
      exact⟨_,_,_,rfl,s4.trans s5,fun b o hb e=>s5 _ _ (b4 b o hb e),rn.same ⟨ws,cs,h6,nJ,by lia,h9,ky cs rq fun m m1 n n1 hc=>absurd hc (Yq TT Du.2 Dv.2 cI m1 n1)⟩ s5⟩
     ·obtain⟨i',a',rfl,bM,hc⟩:=TT.clash (Dv.2 m (alx e1)) e3 e2 e4
      have uE:=s5 _ _ h6
      have S5:=s4.trans s5
      obtain⟨v1,lF,t1,w1,rfl,m1,_⟩:=(h5.imp fun _ _ x=>cD.same x S5).at bM
      obtain⟨v2,sZ,t2,w2,rfl,m2,_⟩:=(g5.imp fun _ _ x=>cD.same x S5).at e1
      walk_at "gzn"
      refine⟨.inl ⟨rfl,_,ah.of uE⟩,aA (aj.of hp) (v:=.int i') rfl (aP (ah.of (S5 _ _ h4)) (dC lF) (aA (aj.of m1) (v:=.int a'.1) rfl ⟨bq,fun p1 gd=>?_⟩))⟩
      have u1:=ax (o:=.tup [ev r.1,.int a'.1]) gd
      refine aA (aj.of (u1 _ _ hp)) (v:=.int jj) rfl (aP (ah.of (u1 _ _ (S5 _ _ g4))) (dC sZ) (aA (aj.of (u1 _ _ m2)) (v:=.int m.1) rfl ⟨bq,fun p2 d8=>⟨bq,fun p3 iV=>?_⟩⟩))
      have u2:=ax (o:=.tup [ev r'.1,.int m.1]) d8
      have u3:=ax (o:=.tup [.ref p1,.ref p2]) iV
      have U:=u1.trans (u2.trans u3)
      have Dw:=U _ _ uE
      have cq:dR (upd (upd (upd H5 p1 (.tup [ev r.1,.int a'.1])) p2 (.tup [ev r'.1,.int m.1])) p3 (.tup [.ref p1,.ref p2])) (.ref p3) ((r.1,a'.1),(r'.1,m.1)):=⟨p3,p1,p2,rfl,au,u3 _ _ (u2 _ _ au),u3 _ _ au⟩
      have wl:ws.length<=100:=by
       have e8:=nJ.len
       have b1:=(alj.mp hr).1
       have b2:=(alj.mp xN).1
       lia
      refine⟨ws,Dw,al9 wl (by decide),_,_,_,rfl,fT fl (S5.trans U),fun b o hb e=>by rw[aH hb];exact U _ _ (s5 _ _ (b4 b o hb e)),_,cs++[((r.1,a'.1),(r'.1,m.1))],au,ay.app (nJ.imp fun _ _ x=>(x.same (s5.trans U)).put Dw) ⟨cq.put Dw,trivial⟩,by rw[alD,aly];lia,fun c vk=>?_,ky _ (fun i' j' g h a1 a2 a3=>(rq i' j' g h a1 a2 a3).more) fun _ _ _ _ _=>⟨_,alq _ (.head _),rfl,rfl⟩⟩
      rcases alK.mp vk with z|z
      ·exact h9 c z
      ·rw[alP.mp z]
       exact⟨r,alx hr,r',alx xN,a',alx bM,m,alx e1,rfl,hc⟩
    ·rintro σ H4 ⟨_,_,_,rfl,s4,_,ws,cs,h6,nJ,h8,h9,rq⟩
     exact⟨_,_,_,_,_,_,rfl,s4,ws,cs,h6,nJ,by lia,h9,fun i' j' g h a1 a2 a3=>rq i' j' g h a1 a2 (by have:=(alj.mp a2).1;lia)⟩
  rintro σ H2 ⟨_,_,_,_,_,_,rfl,s2,ws,cs,h6,nJ,h8,h9,rq⟩
  walk_at "gzn"
  exact q l ws cs H2 s2 fl h6 nJ (by lia) h9 fun g hg h hh=>by
   obtain⟨i',bM⟩:=am6.mp hg
   obtain⟨j',zG⟩:=am6.mp hh
   exact rq i' j' g h bM zG (.inl (by have:=(alj.mp bM).1;lia))
end
section
seal L2.PE L2.PS L2.bw L2.PA
variable {P:alr} {w:alS} {K:ak2} {mg:Str->Option ak3} {base:amH}
theorem PF {e:Int} {o:En} {Q:Bool->Prop} (h:Q (!decide (o=some e))):neT (.int e) (ev o) Q:=by
 cases o with
 | none=>exact h
 | some x =>
  show if ¬ e=x then Q true else Q false
  by_cases z:e=x
  ·subst z
   rw[if_neg (fun h=>h rfl)]
   simpa using h
  ·rw[if_pos z]
   have:(some x:En)≠some e:=fun h=>z (Option.some.inj h).symm
   simpa [this] using h
theorem PH {o o':En} {Q:Bool->Prop} (h:Q (decide (o=o'))):eqT (ev o) (ev o') Q:=by
 cases o with
 | none=>cases o'<;>exact h
 | some x =>
  cases o' with
  | none=>exact h
  | some y =>
   show if x=y then Q true else Q false
   by_cases z:x=y
   ·subst z;rw[if_pos rfl];simpa using h
   ·rw[if_neg z]
    have:(some x:En)≠some y:=fun h=>z (Option.some.inj h)
    simpa [this] using h
inductive abB (H:Hp) (v:V) (s:En × Nat):Prop
 | mk (r:ala) (_:v = .ref r) (_:H r=some (.tup [ev s.1,.int s.2]))
theorem ay.ints {zs:List V} {ns:List Int} (h:ay (fun v (n:Int)=>v=V.int n) zs ns):zs=ns.map V.int:=by
 induction zs generalizing ns with
 | nil=>cases ns with|nil=>rfl|cons _ _=>exact h.elim
 | cons z zs ih=>cases ns with
  | nil=>exact h.elim
  | cons n ns=>rw[alH,<- ih h.2,h.1]
theorem Dx:∀ {xs ys:List Int},xs.Nodup->(∀ x∈xs,x∈ys)->xs.length<=ys.length
 | [],_,_,_=>alv _
 | x::xs,ys,h,k=>by
  obtain⟨h1,h2⟩:=amo.mp h
  have hx:=k x (.head _)
  have ih:=Dx (ys:=ys.erase x) h2 fun y hy=>(aq2 (fun z=>h1 (by rw[<- z];exact hy))).mpr (k y (.tail _ hy))
  rw[ap0 hx] at ih
  have:=aqr hx
  rw[amn]
  lia
inductive abC (K:ak2) (vs:List V) (H:Hp) (Q:VK) (a8:XK):Prop
 | mk (l:ala) (e:Int) (zs:List V) (cs:List Cl) (_:vs=[.ref l,.int e]) (_:H l=some (.lst zs)) (_:ay (dR H) zs cs) (_:cs.length<=64) (_:∀ r ys H',ak H H'->H r=none->H' r=some (.lst ys)->ay (dR H') ys (wo e cs)->Q (.ref r) H')
theorem PJ (T:Tx K mg):aL P w K mg base (aM P w) 1 T.my T.B0 ["pairs","eye"] (abC K):=by
 refine okN T.qU ZF (fun vs H Q E h=>?_) (fun aI A outer s H vs Q E hr h=>?_)
 ·obtain⟨l,e,zs,cs,rfl,_⟩:=h
  rfl
 ·obtain⟨l,e,zs,cs,rfl,hl,hC,hn,q⟩:=h
  refine⟨_,(ar (aG (fq (di.mk (fr:=[1]) (ys:=["eye"]) rfl (by decide +kernel) rfl (by decide +kernel) rfl rfl (.cons rfl .nil) (.cons rfl rfl rfl rfl .nil) (by decide) rfl) rfl (eI (aa 0)) (fun C s2 H2 ex pn=>⟨(jV (PW.pt (dv (lO (aa 1) (dF (K:=K) (dF (K:=K) (aa 0) af) af)) (dU (lO (aa 1) (dF (K:=K) (dF (K:=K) (aa 0) af) af)))))),(aa 0)⟩)))),?_⟩
  have zl:=hC.len
  walk_at "gzn"
  refine⟨⟨_,ah.of hl⟩,ft sL (alp (by lia:zs.length<=64) (by decide)) (oQ (R:=dR H) (R':=dR H) (p:=fun c=>!f6 e c) (f:=fun c=>c) (ah.of hl) hC (fun x c r Q h=>?_) (fun x c hp r Q h=>?_) fun ys hy=>?_)⟩
  ·obtain⟨t,a,b,rfl,h1,h2,h3⟩:=r
   walk_at "gzn"
   refine aA (aj.of h1) (v:=.ref a) rfl (aA (aj.of h2) (v:=ev c.1.1) rfl (PF ?_))
   unfold f6 at h
   by_cases z:c.1.1=some e
   ·rw[decide_eq_true z] at h ⊢
    exact h
   ·rw[decide_eq_false z] at h ⊢
    refine aA (aj.of h1) (v:=.ref b) rfl (aA (aj.of h3) (v:=ev c.2.1) rfl (PF ?_))
    exact h
  ·walk_at "gzn"
   exact h _ r
  ·rw[al3]
   intro r hr
   rw[arV] at hy
   exact q r ys _ (ax hr) hr au (hy.imp fun _ _ x=>x.same (ax hr))
inductive abD (K:ak2) (vs:List V) (H:Hp) (Q:VK) (a8:XK):Prop
 | mk (v:V) (c:Cl) (_:vs=[v]) (_:dR H v c) (_:∀ l (es:List Int) H',ak H H'->H l=none->H' l=some (.lst (es.map V.int))->(∀ e,e∈es↔f6 e c=true)->es.length<=2->Q (.ref l) H')
theorem abE (T:Tx K mg):aL P w K mg base (aM P w) 1 T.mz T.B3 ["pair"] (abD K):=by
 refine okN T.t7 ZG (fun vs H Q E h=>?_) (fun aI A outer s H vs Q E hr h=>?_)
 ·obtain⟨v,c,rfl,_⟩:=h
  rfl
 ·obtain⟨v,c,rfl,⟨t,a,b,rfl,h1,h2,h3⟩,q⟩:=h
  refine⟨_,(ar (aG (Yh rfl (fq (di.mk (fr:=[]) (ys:=[]) rfl (by decide +kernel) rfl (by decide +kernel) rfl rfl .nil .nil (by decide) rfl) rfl (yK (aa 0)) (fun C s2 H2 ex pn=>⟨(jV (dE (dF (K:=K) (aa 0) af))),(dF (K:=K) (aa 0) af)⟩)) (by rfl) T.C7 zq (by rfl) T.aat Xx))),?_⟩
  walk_at "gzn"
  refine⟨⟨_,aj.of h1⟩,ft (xs:=[.ref a,.ref b]) Mb bq (oQ (R:=abB H) (R':=fun v (n:Int)=>v=V.int n) (p:=fun s=>s.1.isSome) (f:=fun s=>s.1.getD 0) (as:=[c.1,c.2]) (aj.of h1) ⟨⟨a,rfl,h2⟩,⟨b,rfl,h3⟩,trivial⟩ (fun x s r Q h=>?_) (fun x s hp r Q h=>?_) fun zs hz=>?_)⟩
  ·obtain⟨r,rfl,h4⟩:=r
   walk_at "gzn"
   refine aA (aj.of h4) (v:=ev s.1) rfl ?_
   cases hs:s.1 with
   | none=>rw[hs] at h;exact h
   | some x=>rw[hs] at h;exact h
  ·obtain⟨r,rfl,h4⟩:=r
   walk_at "gzn"
   refine aA (aj.of h4) (v:=ev s.1) rfl (h _ ?_)
   cases hs:s.1 with
   | none=>rw[hs] at hp;cases hp
   | some x=>rfl
  ·rw[al3]
   intro l hl
   rw[ay.ints hz]
   have u1:=ax (o:=.lst ((([c.1,c.2].filter fun s=>s.1.isSome).map fun s=>s.1.getD 0).map V.int)) hl
   have hn:(([c.1,c.2].filter fun s=>s.1.isSome).map fun s=>s.1.getD 0).length<=2:=by rw[ak8];exact al8 _ _
   have hi:∀ e,e∈(([c.1,c.2].filter fun s=>s.1.isSome).map fun s=>s.1.getD 0)↔f6 e c=true:=fun e=>by
    rw[lJ]
    constructor
    ·intro h
     obtain⟨s,hs,rfl⟩:=alF.mp h
     obtain⟨m1,m2⟩:=ama.mp hs
     obtain⟨x,hx⟩:=amS.mp m2
     rw[hx]
     rcases alk.mp m1 with rfl|m1
     ·exact .inl hx
     ·rw[alP.mp m1] at hx
      exact .inr hx
    ·rintro (h|h)
     ·exact alF.mpr ⟨c.1,ama.mpr ⟨.head _,by rw[h];rfl⟩,by rw[h];rfl⟩
     ·exact alF.mpr ⟨c.2,ama.mpr ⟨.tail _ (.head _),by rw[h];rfl⟩,by rw[h];rfl⟩
   refine⟨l,rfl,_,ah.of au,by lia,fun ws nd mem _ r hr=>?_⟩
   exact q r ws _ (u1.trans (ax hr)) (u1.free hr) au (fun e=>(mem e).trans (hi e)) (alp (Dx nd fun x hx=>(mem x).mp hx) hn)
end
section
seal L2.PE L2.PS L2.bw L2.PA
variable {P:alr} {w:alS} {K:ak2} {mg:Str->Option ak3} {base:amH}
inductive PK (K:ak2) (N:Nat) (vs:List V) (H:Hp) (Q:VK) (a8:XK):Prop
 | mk (l:ala) (zs:List V) (cs:List Cl) (n:Nat) (_:vs=[.ref l,.int n]) (_:n<N) (_:n<=7) (_:H l=some (.lst zs)) (_:ay (dR H) zs cs) (_:cs.length<=64) (_:(∀ H',ak H H'->fS (n+1) cs->Q .non H')) (_:∀ r (es:List Int) H',ak H H'->H r=none->H' r=some (.lst (es.map V.int))->tm es cs->es.length<=n->Q (.ref r) H')
inductive bV (H:Hp) (l:ala) (n:Nat) (cs:List Cl) (es:List Int) (i:Nat) (σ:St) (H1:Hp):Prop
 | mk (e1 e2:Option V) (_:σ=[some (.ref l),some (.int ((n+1:Nat):Int)),e1,e2]) (_:ak H H1) (_:∀ e∈es.take i,fS (n+1) (wo e cs))
theorem abF (T:Tx K mg):∀ N,aL P w K mg base (aM P w) (N+2) T.km T.xb ["pairs","most"] (PK K N):=by
 intro N
 induction N with
 | zero =>
  refine okN T.mC wU (fun vs H Q E h=>?_) (fun aI A outer s H vs Q E hr h=>?_)
  ·obtain⟨l,zs,cs,n,rfl,hN,_⟩:=h;exact absurd hN (am5 _)
  ·obtain⟨l,zs,cs,n,rfl,hN,_⟩:=h;exact absurd hN (am5 _)
 | succ N ih =>
  refine okN T.mC wU (fun vs H Q E h=>?_) (fun aI A outer s H vs Q E hr h=>?_)
  ·obtain⟨l,zs,cs,n,rfl,_⟩:=h
   rfl
  ·obtain⟨l,zs,cs,n,rfl,hN,n7,hl,hC,hn,q0,q⟩:=h
   refine⟨_,(aq (aN (b8 (bI dA (by rfl) T.dr df (ae (aa 0) ag)) af) (ar (aG (cF ag))) aO)
    (aq (aN (b8 (aa 1) af) (ar (aG bR)) aO)
    (aq (cO alU rfl (eI (dB (abE T) (hr.mono (by lia)) rfl T.Z9 T.t7.kp T.B4 .nil aB (ae (cc cf (aa 0) af (fun _ _=>rfl)) ag))) (bo (i:=2) wU.nd rfl (als rfl)) (aq (aD (i:=3) wU.nd rfl (als rfl) (dB ih (hr.mono (by lia)) rfl T.O2 T.mC.kp T.xf .nil aB (ae (dB (PJ T) (hr.mono (by lia)) rfl T.O0 T.qU.kp T.xa .nil aB (ae (aa 0) (ae (aa 2) ag))) (ae (aE dQ (aa 1) af) ag))))
      (ar (aN (dE (aa 3)) (ar (aG (aE oh (cF (ae (aa 2) ag)) (aa 3)))) aO))))
    (ar (aG bR))))),?_⟩
   have zl:=hC.len
   cases cs with
   | nil =>
    obtain rfl:zs=[]:=amY.mp zl
    walk_at "gzn"
    refine⟨_,d9 (ah.of hl),?_⟩
    walk_at "gzn"
    exact⟨by decide,fun r hr=>q r [] _ (ax hr) hr au (fun c hc=>(nomatch hc)) (alv _)⟩
   | cons c cs =>
    obtain⟨z,zs,rfl⟩:∃ z z',zs=z::z':=by cases zs with|nil=>cases zl|cons z zs=>exact⟨z,zs,rfl⟩
    cases n with
    | zero =>
     walk_at "gzn"
     refine⟨_,d9 (ah.of hl),?_⟩
     refine bb (fun h0=>absurd h0 (by rw[amn];lia)) fun _=>?_
     walk_at "gzn"
     exact q0 _ (ak.refl _) fun _ _=>trivial
    | succ n =>
     walk_at "gzn"
     refine⟨_,d9 (ah.of hl),?_⟩
     refine bb (fun h0=>absurd h0 (by rw[amn];lia)) fun _=>bb (fun h0=>absurd h0 (by lia)) fun _=>?_
     refine aP (ah.of hl) (v:=z) (show cB (z::zs) ((0:Nat):Int)=some z from dC rfl) ⟨z,c,rfl,hC.1,fun k es H1 s1 _ hk oK Mp=>?_⟩
     walk_at "gzn"
     refine⟨⟨_,ah.of hk⟩,jc (xs:=es.map V.int) (bV H1 l n (c::cs) es) ⟨_,_,rfl,ak.refl _,fun _ h=>(nomatch h)⟩ ?_ ?_ ?_⟩
     ·rintro i σ H2 _ ⟨_,_,rfl,s2,_⟩
      exact ah.of (s2 _ _ hk)
     ·rintro i x σ H2 hx ⟨e1,e2,rfl,s2,cI⟩
      rw[alz] at hx
      obtain⟨e,he,rfl⟩:=alR.mp hx
      have S2:=s1.trans s2
      walk_at "gzn"
      refine⟨l,e,_,c::cs,rfl,S2 _ _ hl,hC.imp fun _ _ x=>x.same S2,hn,fun r ys H3 s3 _ hr hy=>?_⟩
      refine⟨r,ys,wo e (c::cs),n,by rw[show (((n+1:Nat):Int)-1)=(n:Int) by lia],by lia,by lia,hr,hy,alp (al8 _ _) hn,fun H4 s4 h4=>?_,fun r2 es2 H4 s4 f4 Dq hcv hle=>?_⟩
      ·walk_at "gzn"
       refine⟨_,_,rfl,s2.trans (s3.trans s4),fun e' oM=>?_⟩
       rw[amK,he] at oM
       rcases alK.mp oM with z|z
       ·exact cI e' z
       ·obtain rfl:e'=e:=by simpa using z
        exact h4
      ·walk_at "gzn"
       refine⟨by decide,fun p hp=>⟨_,au,_,(ax hp) _ _ Dq,alp (by rw[ak8,aly];lia:_<=20) (by decide),fun p1 gd=>?_⟩⟩
       have W:=s1.trans (s2.trans (s3.trans (s4.trans (ax (o:=.lst [.int e]) hp))))
       exact q p1 (e::es2) _ (W.trans (ax gd)) (W.free gd) au (Yv hcv) (by rw[amn];lia)
     ·rintro σ H2 ⟨e1,e2,rfl,s2,cI⟩
      walk_at "gzn"
      refine q0 _ (s1.trans s2) fun e he=>cI e ?_
      rw[ak8,amO]
      exact (oK e).mpr he
end
section
seal L2.PE L2.PS L2.bw L2.PA
variable {P:alr} {w:alS} {K:ak2} {mg:Str->Option ak3} {base:amH}
noncomputable def dt (H:Hp):V->Pp->Prop
 | v,.nil=>v = .non
 | v,.full=>∃ r,v = .ref r/\H r=some (.tup [.str "full"])
 | v,.cls c a b=>∃ r p q x y,v = .ref r/\H r=some (.tup [.str "clash",.ref p,.ref q,x,y])/\H p=some (.tup [ev c.1.1,.int c.1.2])/\H q=some (.tup [ev c.2.1,.int c.2.2])/\dt H x a/\dt H y b
theorem dt.same {H H':Hp} (s:ak H H'):∀ {t:Pp} {v:V},dt H v t->dt H' v t
 | .nil,_,h=>h
 | .full,_,⟨r,e,h⟩=>⟨r,e,s _ _ h⟩
 | .cls _ _ _,_,⟨r,p,q,x,y,e,h1,h2,h3,h4,h5⟩=>⟨r,p,q,x,y,e,s _ _ h1,s _ _ h2,s _ _ h3,dt.same s h4,dt.same s h5⟩
noncomputable def uG (n:Nat) (cs:List Cl) (o:En):Pp:=match o with|none=>.nil|some e=>kd n (wo e cs)
theorem PL (n:Nat) (c:Cl) (cs:List Cl):kd (n+1) (c::cs) = .cls c (uG n (c::cs) c.1.1) (if c.1.1=c.2.1 then .nil else uG n (c::cs) c.2.1):=rfl
inductive Dy (K:ak2) (N:Nat) (vs:List V) (H:Hp) (Q:VK) (a8:XK):Prop
 | mk (l:ala) (m:Int) (zs:List V) (cs:List Cl) (n:Nat) (_:vs=[.ref l,.int m]) (_:m+1=(n:Int)) (_:n<N) (_:H l=some (.lst zs)) (_:ay (dR H) zs cs) (_:cs.length<=64) (_:fS n cs) (_:∀ v H',ak H H'->dt H' v (kd n cs)->Q v H')
inductive abG (K:ak2) (N:Nat) (vs:List V) (H:Hp) (Q:VK) (a8:XK):Prop
 | mk (l:ala) (m:Int) (o:En) (zs:List V) (cs:List Cl) (n:Nat) (_:vs=[.ref l,ev o,.int m]) (_:m=(n:Int)) (_:n<N) (_:H l=some (.lst zs)) (_:ay (dR H) zs cs) (_:cs.length<=64) (_:(∀ e,o=some e->fS n (wo e cs))) (_:∀ v H',ak H H'->dt H' v (uG n cs o)->Q v H')
theorem PM (T:Tx K mg) (N:Nat) (ih:aL P w K mg base (aM P w) (2 * N+1) T.jC T.t8 ["pairs","most"] (Dy K N)):aL P w K mg base (aM P w) (2 * N+2) T.mD T.B5 ["pairs","eye","most"] (abG K N):=by
 refine okN T.qV ZH (fun vs H Q E h=>?_) (fun aI A outer s H vs Q E hr h=>?_)
 ·obtain⟨l,m,o,zs,cs,n,rfl,_⟩:=h
  rfl
 ·obtain⟨l,m,o,zs,cs,n,rfl,hm,hN,hl,hC,hn,cI,q⟩:=h
  refine⟨_,(ar (aG (nZ (c8 (aa 1)) bR (dB ih (hr.mono (by lia)) rfl T.O4 T.mE.kp T.xh .nil aB (ae (dB (PJ T) (hr.mono (by lia)) rfl T.O0 T.qU.kp T.xa .nil aB (ae (aa 0) (ae (aa 1) ag))) (ae (aE dQ (aa 2) af) ag)))))),?_⟩
  cases o with
  | none =>
   walk_at "gzn"
   exact q _ _ (ak.refl _) rfl
  | some e =>
   walk_at "gzn"
   refine⟨l,e,zs,cs,rfl,hl,hC,hn,fun r ys H1 s1 _ dG hy=>?_⟩
   exact⟨r,_,ys,wo e cs,n,rfl,by lia,hN,dG,hy,alp (al8 _ _) hn,cI e rfl,fun v H2 s2 h2=>q v H2 (s1.trans s2) h2⟩
theorem abH (T:Tx K mg):∀ N,aL P w K mg base (aM P w) (2 * N+1) T.jC T.t8 ["pairs","most"] (Dy K N):=by
 intro N
 induction N with
 | zero =>
  refine okN T.mE qI (fun vs H Q E h=>?_) (fun aI A outer s H vs Q E hr h=>?_)
  ·obtain⟨l,m,zs,cs,n,rfl,hm,hN,_⟩:=h;exact absurd hN (am5 _)
  ·obtain⟨l,m,zs,cs,n,rfl,hm,hN,_⟩:=h;exact absurd hN (am5 _)
 | succ N ih =>
  refine okN T.mE qI (fun vs H Q E h=>?_) (fun aI A outer s H vs Q E hr h=>?_)
  ·obtain⟨l,m,zs,cs,n,rfl,_⟩:=h
   rfl
  ·obtain⟨l,m,zs,cs,n,rfl,hm,hN,hl,hC,hn,cI,q⟩:=h
   refine⟨_,(aq (aN (ki (aa 1) af) (ar (aG (bg (ae bH ag)))) aO)
    (aq (aD (i:=2) qI.nd rfl (als rfl) (cc cf (cc cf (aa 0) af (fun _ _=>rfl)) af (fun _ _=>rfl)))
    (aq (aD (i:=3) qI.nd rfl (als rfl) (cc cf (cc cf (aa 0) af (fun _ _=>rfl)) af (fun _ _=>rfl)))
    (aq (aD (i:=4) qI.nd rfl (als rfl) (dB (PM T N ih) (hr.mono (by lia)) rfl T.O3 T.qV.kp T.xg .nil aB (ae (aa 0) (ae (cc cf (aa 2) af (fun _ _=>rfl)) (ae (aa 1) ag)))))
    (aq (aD (i:=5) qI.nd rfl (als rfl) (nZ (b8 (cc cf (aa 2) af (fun _ _=>rfl)) (cc cf (aa 3) af (fun _ _=>rfl))) bR (dB (PM T N ih) (hr.mono (by lia)) rfl T.O3 T.qV.kp T.xg .nil aB (ae (aa 0) (ae (cc cf (aa 3) af (fun _ _=>rfl)) (ae (aa 1) ag))))))
    (ar (aG (bg (ae bH (ae (aa 2) (ae (aa 3) (ae (aa 4) (ae (aa 5) ag))))))))))))),?_⟩
   have zl:=hC.len
   cases n with
   | zero =>
    walk_at "gzn"
    refine bb (fun _=>?_) fun h0=>absurd (show m<0 by lia) h0
    exact⟨by decide,fun r hr=>q _ _ (ax hr) ⟨r,rfl,au⟩⟩
   | succ n =>
    cases cs with
    | nil=>exact cI.elim
    | cons c cs =>
     obtain⟨z,zs,rfl⟩:∃ z z',zs=z::z':=by cases zs with|nil=>cases zl|cons z zs=>exact⟨z,zs,rfl⟩
     obtain⟨t,a,b,rfl,ht,ha,hb⟩:=id hC.1
     have z0:cB (V.ref t::zs) ((0:Nat):Int)=some (.ref t):=dC rfl
     walk_at "gzn"
     refine bb (fun h0=>absurd h0 (by lia)) fun _=>?_
     refine aP (ah.of hl) z0 (aA (aj.of ht) (v:=.ref a) rfl ?_)
     refine aP (ah.of hl) z0 (aA (aj.of ht) (v:=.ref b) rfl (aA (aj.of ha) (v:=ev c.1.1) rfl ?_))
     refine⟨l,m,c.1.1,_,c::cs,n,rfl,by lia,by lia,hl,hC,hn,fun e he=>cI e (lJ.mpr (.inl he)),fun v1 H1 s1 h1=>?_⟩
     refine aA (aj.of (s1 _ _ ha)) (v:=ev c.1.1) rfl (aA (aj.of (s1 _ _ hb)) (v:=ev c.2.1) rfl (PH ?_))
     rw[PL] at q
     by_cases he:c.1.1=c.2.1
     ·rw[decide_eq_true he]
      rw[if_pos he] at q
      refine⟨by decide,fun p hp=>?_⟩
      have u1:=ax (o:=.tup [.str "clash",.ref a,.ref b,v1,.non]) hp
      have U:=s1.trans u1
      exact q _ _ U ⟨p,a,b,v1,_,rfl,au,U _ _ ha,U _ _ hb,h1.same u1,rfl⟩
     ·rw[decide_eq_false he]
      rw[if_neg he] at q
      refine aA (aj.of (s1 _ _ hb)) (v:=ev c.2.1) rfl ⟨l,m,c.2.1,_,c::cs,n,rfl,by lia,by lia,s1 _ _ hl,hC.imp fun _ _ x=>x.same s1,hn,fun e he=>cI e (lJ.mpr (.inr he)),fun v2 H2 s2 h2=>⟨by decide,fun p hp=>?_⟩⟩
      have u1:=ax (o:=.tup [.str "clash",.ref a,.ref b,v1,v2]) hp
      have U:=s1.trans (s2.trans u1)
      exact q _ _ U ⟨p,a,b,v1,v2,rfl,au,U _ _ ha,U _ _ hb,h1.same (s2.trans u1),h2.same u1⟩
end
section
seal L2.PE L2.PS L2.bw L2.PA
variable {P:alr} {w:alS} {K:ak2} {mg:Str->Option ak3} {base:amH}
theorem abI (T:Tx K mg):aL P w K mg base (aM P w) 10 T.km T.xb ["pairs","most"] (PK K 8):=abF T 8
theorem abJ (T:Tx K mg):aL P w K mg base (aM P w) 19 T.jC T.t8 ["pairs","most"] (Dy K 9):=abH T 9
noncomputable def bA:Pp->Nat
 | .nil=>0
 | .full=>1
 | .cls _ a b=>(if bA a<=bA b then bA b else bA a)+1
theorem PN:∀ (n:Nat) (cs:List Cl),bA (kd n cs)<=n+1
 | 0,_=>alm _
 | n+1,[]=>asH _ _
 | n+1,c::cs=>by
  have one:∀ o,bA (uG n (c::cs) o)<=n+1:=fun o=>by
   cases o with
   | none=>exact alv _
   | some e=>exact PN n _
  have two:bA (if c.1.1=c.2.1 then .nil else uG n (c::cs) c.2.1)<=n+1:=by
   split
   ·exact alv _
   ·exact one _
  rw[PL]
  show (if _<=_ then _ else _)+1<=n+1+1
  have:=one c.1.1
  split<;>lia
inductive ig (G H:Hp) (v:V) (sw gw:List W2) (tb:Tb) (mo:Int):Prop
 | ky (r k:ala) (j:Nat) (_:v = .ref r) (_:H r=some (.tup [.str "never",.ref k])) (_:H k=some (.tup [.str "step",.int (j:Int)])) (_:sw[j]?=some none)
 | gol (r k:ala) (j:Nat) (_:v = .ref r) (_:H r=some (.tup [.str "never",.ref k])) (_:H k=some (.tup [.str "at",.int (j:Int)])) (_:gw[j]?=some none)
 | pap (r:ala) (k:V) (t:Pp) (pp:List P2) (gs:List S2) (_:v = .ref r) (_:H r=some (.tup [.str "never",k])) (_:dt H k t) (_:bA t<=9) (_:sw=pp.map hU) (_:gw=gs.map some) (_:Val pp gs tb mo t [])
 | may (r k:ala) (cs:List Int) (pp:List P2) (gs:List S2) (es:List Int) (_:v = .ref r) (_:H r=some (.tup [.str "may",.ref k])) (_:H k=some (.lst (cs.map V.int))) (_:G k=none) (_:cs.length=gw.length) (_:sw=pp.map hU) (_:gw=gs.map some) (_:j6 pp (a7 cs)) (_:∀ t s,gs[t]?=some s->bL s (a7 cs t)) (_:(es.length:Int)<=mo) (_:meets (eB tb es) (a7 cs))
noncomputable def eU (gs:List S2):List Mk:=(al4 gs.length).map fun i=>(i,gs.getD i (none,none))
theorem PQ {gs:List S2} {i:Nat} {m:Mk} (h:(eU gs)[i]?=some m):m.1=i/\gs[i]?=some m.2:=by
 unfold eU at h
 rw[alz] at h
 obtain⟨k,hk,rfl⟩:=alR.mp h
 have hi:i<gs.length:=by
  have:=(alj.mp hk).1
  rwa [alN] at this
 rw[amQ hi] at hk
 cases hk
 exact⟨rfl,by show gs[i]?=some (gs.getD i _);rw[ak4,ak9 hi];rfl⟩
theorem PR {gs:List S2} {m:Mk} (h:m∈eU gs):m.1<gs.length/\gs[m.1]?=some m.2:=by
 obtain⟨i,hi⟩:=am6.mp h
 obtain⟨e1,e2⟩:=PQ hi
 rw[<- e1] at e2
 exact⟨(alj.mp e2).1,e2⟩
theorem xR (gs:List S2):(eU gs).length=gs.length:=by unfold eU;rw[ak8,alN]
theorem ay.PU {α:Type} {R:V->α->Prop}:∀ {xs:List V} {as:List α},xs.length=as.length->(∀ (i:Nat) x a,xs[i]?=some x->as[i]?=some a->R x a)->ay R xs as
 | [],[],_,_=>trivial
 | _::_,_::_,h,k=>⟨k 0 _ _ rfl rfl,ay.PU (by simpa using h) fun i x a h1 h2=>k (i+1) x a h1 h2⟩
 | [],_::_,h,_=>by cases h
 | _::_,[],h,_=>by cases h
theorem getD_none {ws:List W2} {j:Nat} (h:j<ws.length) (e:aoc (ws.getD j none)=true):ws[j]?=some none:=by
 rw[ak4,ak9 h] at e
 rw[ak9 h]
 cases hw:ws[j] with
 | none=>rfl
 | some s=>rw[hw] at e;cases e
inductive PV (K:ak2) (B:ala) (vs:List V) (H:Hp) (Q:VK) (a8:XK):Prop
 | mk (x p b:ala) (e t u d m:Int) (xs:List V) (ps:List Pa) (tb:Tb) (_:vs=[.ref x,.ref b]) (_:eS B H x e t u d m p tb) (_:bZ e t tb) (_:tb.length<=60) (_:1<=t) (_:t<=12) (_:0<=e) (_:e<=7) (_:0<=m) (_:m<=7) (_:ah K H b xs) (_:bT H xs ps) (_:ps.length<=900) (_:eO t ps) (_:∀ v H',ak H H'->ig H H' v (cV u d ps (t-1).toNat) (cJ ps t.toNat) tb m->Q v H')
theorem uH (T:Tx K mg):aL P w K mg base (aM P w) 20 T.mF T.B6 ["board","claim"] (PV K T.aQ):=by
 refine je T.jD qJ (fun vs H Q E h=>?_) (fun aI A outer s H vs Q E hr h=>?_)
 ·obtain⟨x,p,b,e,t,u,d,m,xs,ps,tb,rfl,_⟩:=h
  rfl
 ·obtain⟨x,p,b,e,t,u,d,m,xs,ps,tb,rfl,hb,hot,rA,t1,t2,e0,e7,m0,m7,hX,hP,hn,hk,Q1⟩:=h
  refine⟨_,(aq (aD (i:=2) qJ.nd rfl (als rfl) (dB (aa3 T) (hr.mono (by decide)) rfl T.Z3 T.tW.kp T.BN .nil oA (ae (aa 0) (ae (aa 1) ag))))
  (aq (aD (i:=3) qJ.nd rfl (als rfl) (dB (aa5 T) (hr.mono (by decide)) rfl T.Z4 T.tX.kp T.BP .nil oA (ae (aa 0) (ae (aa 1) ag))))
  (aq (aN (gp (AX (cQ hr)) bR (aa 2) (by with_unfolding_all rfl)) (ar (aG (bg (ae bH (ae (bg (ae bH (ae (i9 al0 aoA ap9 (N8 (cQ hr)) (aa 2) (ae bR ag)) ag))) ag))))) aO)
  (aq (aN (gp (AX (cQ hr)) bR (aa 3) (by with_unfolding_all rfl)) (ar (aG (bg (ae bH (ae (bg (ae bH (ae (i9 al0 aoA ap9 (N8 (cQ hr)) (aa 3) (ae bR ag)) ag))) ag))))) aO)
  (aq (aD (i:=4) qJ.nd rfl (als rfl) (YR rfl (by rfl) T.nB (by rfl) T.xE (ae (aa 3) ag)))
  (aq (aD (i:=5) qJ.nd rfl (als rfl) (aF (abA T) hr T.Z8 T.t6 T.BZ aB (ae (aa 2) (ae (aE oh (cF (ae (bg (ae bR (ae (aa 4) ag))) ag)) (aF (abc T) hr T.Z7 T.t4 T.BX aB (ae (aa 0) ag))) ag))))
  (aq (aD (i:=6) qJ.nd rfl (als rfl) (aF (abI T) hr T.O2 T.mC T.xf aB (ae (aa 5) (ae (fE rfl (aa 0) rfl) ag))))
  (aq (aN (c8 (aa 6)) (ar (aG (bg (ae bH (ae (aF (abJ T) hr T.O4 T.mE T.xh aB (ae (aa 5) (ae (fE rfl (aa 0) rfl) ag))) ag))))) aO)
  (ar (aG (bg (ae bH (ae (aF (abo T) hr T.ZZ T.tR T.BA aB (ae (aa 2) (ae (aE oh (aa 4) (aF (aba T) hr T.Z6 T.tZ T.BV aB (ae (aa 0) (ae (aa 6) ag)))) ag))) ag))))))))))))),?_⟩
  obtain⟨⟨dx,hx⟩,kvs,ij,hTA⟩:=id hb
  have PX:fG T.aQ H x e t u d m p kvs:=⟨⟨dx,hx⟩,ij⟩
  refine aJ (fun σ H1=>∃ s ys,σ=[some (.ref x),some (.ref b),some (.ref s),none,none,none,none]/\ak H H1/\H1 s=some (.lst ys)/\ay (cy H1) ys (cV u d ps (t-1).toNat)) (fun N hN=>?_) ?_
  ·walk_at "gzn"
   exact⟨x,p,b,e,t,u,d,m,kvs,xs,ps,rfl,PX,t1,t2,hX,hP,hn,fun z=>absurd hk z,fun _ l ys H1 s1 _ hl hW=>hN _ _ ⟨l,ys,rfl,s1,hl,hW⟩⟩
  rintro σ H1 ⟨s,ys,rfl,s1,hs,hW⟩
  refine aJ (fun σ H2=>∃ gl zs,σ=[some (.ref x),some (.ref b),some (.ref s),some (.ref gl),none,none,none]/\ak H1 H2/\H2 gl=some (.lst zs)/\ay (cy H2) zs (cJ ps t.toNat)) (fun N hN=>?_) ?_
  ·walk_at "gzn"
   exact⟨x,p,b,e,t,u,d,m,kvs,xs,ps,rfl,PX.same s1,t1,t2,s1.seq hX,hP.same s1,hn,fun z=>absurd hk z,fun _ l ys H2 s2 _ hl hW=>hN _ _ ⟨l,ys,rfl,s2,hl,hW⟩⟩
  rintro σ H2 ⟨gl,zs,rfl,s2,iW,hG⟩
  have Dz:=s1.trans s2
  have cN:=s2 _ _ hs
  have DA:=hW.imp fun _ _ r=>r.same s2
  have wl:(cV u d ps (t-1).toNat).length=(t-1).toNat:=by unfold cV;rw[ak8,alN]
  have gw:(cJ ps t.toNat).length=t.toNat:=by unfold cJ;rw[ak8,alN]
  have yl:=hW.len
  have zl:=hG.len
  obtain⟨n1,n2,n3⟩:=wD DA
  obtain⟨k1,k2,k3⟩:=wD hG
  refine aJ (fun σ H3=>σ=[some (.ref x),some (.ref b),some (.ref s),some (.ref gl),none,none,none]/\H3=H2/\(cV u d ps (t-1).toNat).any aoc=false) (fun N hN=>?_) ?_
  ·walk_at "gzn"
   refine⟨s,ys,rfl,rfl,ah.of cN,n1,?_⟩
   rw[n2]
   cases hA:(cV u d ps (t-1).toNat).any aoc with
   | false =>
    walk_at "gzn"
    exact hN _ _ ⟨rfl,rfl,hA⟩
   | true =>
    walk_at "gzn"
    obtain⟨j,j1,j2,j3⟩:=AY (d:=V.non) (n2.trans hA)
    refine⟨.inl ⟨rfl,_,ah.of cN⟩,s,ys,j,rfl,rfl,ah.of cN,n1,j1,by lia,j2,j3,bq,fun k oU=>⟨bq,fun r hr=>?_⟩⟩
    have u1:=ax (o:=.tup [.str "step",.int (j:Int)]) oU
    have u2:=ax (o:=.tup [.str "never",.ref k]) hr
    rw[n3] at j2
    exact Q1 _ _ (Dz.trans (u1.trans u2)) (.ky r k j rfl au (u2 _ _ au) (getD_none (by lia) j2))
  rintro σ H3 ⟨rfl,rfl,hA⟩
  refine aJ (fun σ H4=>σ=[some (.ref x),some (.ref b),some (.ref s),some (.ref gl),none,none,none]/\H4=H3/\(cJ ps t.toNat).any aoc=false) (fun N hN=>?_) ?_
  ·walk_at "gzn"
   refine⟨gl,zs,rfl,rfl,ah.of iW,k1,?_⟩
   rw[k2]
   cases hB:(cJ ps t.toNat).any aoc with
   | false =>
    walk_at "gzn"
    exact hN _ _ ⟨rfl,rfl,hB⟩
   | true =>
    walk_at "gzn"
    obtain⟨j,j1,j2,j3⟩:=AY (d:=V.non) (k2.trans hB)
    refine⟨.inl ⟨rfl,_,ah.of iW⟩,gl,zs,j,rfl,rfl,ah.of iW,k1,j1,by lia,j2,j3,bq,fun k oU=>⟨bq,fun r hr=>?_⟩⟩
    have u1:=ax (o:=.tup [.str "at",.int (j:Int)]) oU
    have u2:=ax (o:=.tup [.str "never",.ref k]) hr
    rw[k3] at j2
    exact Q1 _ _ (Dz.trans (u1.trans u2)) (.gol r k j rfl au (u2 _ _ au) (getD_none (by lia) j2))
  rintro σ H4 ⟨rfl,rfl,hB⟩
  obtain⟨pp,ep,ao⟩:=Oa (f:=fun (k:Nat)=>dq (none,none) ((some (-d),some u)::sel ps "step" (k:Int))) (fun k s h=>Yp h) (al4 (t-1).toNat) fun k hk e=>Ob hA _ (alF.mpr ⟨k,hk,rfl⟩) e
  replace ep:cV u d ps (t-1).toNat=pp.map hU:=ep
  obtain⟨gs,eg⟩:=all_some _ (Ob hB)
  have ppl:pp.length=(t-1).toNat:=by rw[<- wl,ep,ak8]
  have gsl:gs.length=t.toNat:=by rw[<- gw,eg,ak8]
  rw[ep] at DA
  have PY:=AZ DA
  have DB:=hG
  rw[eg] at DB
  have M1:∀ mm∈eU gs,mm.1<=pp.length:=fun mm hm=>by have:=(PR hm).1;lia
  have M2:∀ r∈tb,r.1.2.toNat<=pp.length:=fun r hr=>by
   have ho:=hot.2 r hr
   unfold jo at ho
   lia
  refine aJ (fun σ H5=>∃ k vs,σ=[some (.ref x),some (.ref b),some (.ref s),some (.ref gl),some (.ref k),none,none]/\ak H4 H5/\H5 k=some (.lst vs)/\ay (cD H5) vs (eU gs)) (fun N hN=>?_) ?_
  ·walk_at "gzn"
   refine⟨zs,ah.of iW,fun l vs H5 s5 _ hl hvl hv=>hN _ _ ⟨l,vs,rfl,s5,hl,ay.PU (by rw[hvl,xR,DB.len,ak8]) fun i y mk e1 e2=>?_⟩⟩
   obtain⟨f1,f2⟩:=PQ e2
   obtain⟨z,hz,rz⟩:=DB.at (i:=i) (by rw[alz,f2];rfl)
   obtain⟨p0,rfl,_,h5⟩:=hv i y z e1 hz
   obtain⟨pz,rfl,hpz⟩:=rz
   exact⟨p0,pz,rfl,by rw[h5,f1],s5 _ _ hpz⟩
  rintro σ H5 ⟨k,vs,rfl,s5,hkl,hM⟩
  have vl:=hM.len
  rw[xR] at vl
  have S5:=Dz.trans s5
  have vn:vs.length<=12:=by lia
  refine aJ (fun σ H6=>∃ c ws cs,σ=[some (.ref x),some (.ref b),some (.ref s),some (.ref gl),some (.ref k),some (.ref c),none]/\ak H5 H6/\H6 c=some (.lst ws)/\ay (dR H6) ws cs/\cs.length<=64/\wF pp (iO (eU gs) e.toNat tb) cs/\∀ g∈iO (eU gs) e.toNat tb,∀ h∈iO (eU gs) e.toNat tb,iN pp g h cs) (fun N hN=>?_) ?_
  ·walk_at "gzn"
   refine⟨bq,fun t0 ht0=>⟨by decide,fun l0 cE=>?_⟩⟩
   have u1:=ax (o:=.tup [.non,.ref k]) ht0
   have u2:=ax (o:=.lst [.ref t0]) cE
   have U:=u1.trans u2
   refine⟨x,p,e,t,u,d,m,tb,rfl,hb.same (S5.trans U),hot.1,by lia,fun r hr=>(hot.2 r hr).2.1,e0,e7,fun l ws H6 s6 _ hl PZ=>?_⟩
   have P4:=PZ.len
   unfold tj at P4
   rw[ak8,ak8,alN] at P4
   refine⟨l,rfl,[.ref t0],s6 _ _ au,ws,hl,alp (by show 1+ws.length<=30;lia) (by decide),fun c hc=>?_⟩
   have u3:=ax (o:=.lst ([.ref t0]++ws)) hc
   have S6:=s5.trans (U.trans (s6.trans u3))
   refine⟨s,c,ys,.ref t0::ws,pp,iO (eU gs) e.toNat tb,rfl,ah.of (S6 _ _ cN),PY.same S6,ao,by lia,ah.of au,⟨⟨t0,k,vs,rfl,(u2.trans (s6.trans u3)) _ _ au,(U.trans (s6.trans u3)) _ _ hkl,hM.imp fun _ _ r=>r.same (U.trans (s6.trans u3))⟩,PZ.imp fun _ _ r=>r.same u3⟩,?_,fun g hg=>?_,fun l7 ws7 cs7 H7 s7 _ a1 a2 a3 a4 a5=>hN _ _ ⟨l7,ws7,cs7,rfl,U.trans (s6.trans (u3.trans s7)),a1,a2,a3,a4,a5⟩⟩
   ·unfold iO tj
    rw[amn,ak8,ak8,alN]
    lia
   ·rcases alk.mp hg with rfl|z
    ·exact⟨by show (eU gs).length<=1000;rw[xR];lia,M1⟩
    ·obtain⟨g1,kc,rfl⟩:=alF.mp z
     obtain⟨i,_,rfl⟩:=alF.mp kc
     refine⟨alp (by unfold j7;rw[ak8];exact alp (al8 _ _) (by rw[lx];exact alm _)) (by lia:tb.length<=1000),fun mm cC=>?_⟩
     obtain⟨r,hr,_,rfl⟩:=A0.mp cC
     exact M2 r hr
  rintro σ H6 ⟨c,ws,cs,rfl,s6,hc,hC,bN,hsnd,jf⟩
  have S6:=S5.trans s6
  refine aJ (fun σ H7=>∃ av,σ=[some (.ref x),some (.ref b),some (.ref s),some (.ref gl),some (.ref k),some (.ref c),some av]/\ak H6 H7/\((av = .non/\fS (m.toNat+1) cs) ∨ ∃ f es,av = .ref f/\H7 f=some (.lst (es.map V.int))/\tm es cs/\es.length<=m.toNat)) (fun N hN=>?_) ?_
  ·walk_at "gzn"
   refine⟨_,_,_,S6 _ _ hx,T.bP,T.nD,_,rfl,?_⟩
   exact⟨c,ws,cs,m.toNat,by rw[anP m0],by lia,by lia,hc,hC,bN,fun H7 s7 h7=>hN _ _ ⟨_,rfl,s7,.inl ⟨rfl,h7⟩⟩,fun r es H7 s7 _ hr h1 h2=>hN _ _ ⟨_,rfl,s7,.inr ⟨r,es,rfl,hr,h1,h2⟩⟩⟩
  rintro σ H7 ⟨av,rfl,s7,⟨rfl,cI⟩|⟨f,es,rfl,hf,hcov,hle⟩⟩
  ·have S7:=S6.trans s7
   walk_at "gzn"
   refine⟨_,_,_,S7 _ _ hx,T.bP,T.nD,_,rfl,?_⟩
   refine⟨c,m,ws,cs,m.toNat+1,rfl,by lia,by lia,s7 _ _ hc,hC.imp fun _ _ r=>r.same s7,bN,cI,fun v H8 s8 h8=>⟨bq,fun z hz=>?_⟩⟩
   have u1:=ax (o:=.tup [.str "never",v]) hz
   exact Q1 _ _ (S7.trans (s8.trans u1)) (.pap z v _ pp gs rfl au (h8.same u1) (alp (PN _ _) (by lia)) ep eg (Od _ _ _ cI (by rw[anZ];lia) (snd_mk hot (fun mm hm=>(PR hm).2) hsnd)))
  ·have S7:=S6.trans s7
   have M3:∀ mm∈eU gs++eB tb es,mm.1<=pp.length:=fun mm hm=>by
    rcases alK.mp hm with z|z
    ·exact M1 mm z
    ·obtain⟨r,hr,_,rfl⟩:=tq.mp z
     exact M2 r hr
   have abK:=Yw hot ao M3 hcov jf
   walk_at "gzn"
   refine⟨x,p,f,e,t,u,d,m,tb,es,rfl,hb.same S7,hot.1,by lia,fun r hr=>(hot.2 r hr).2.1,ah.of hf,by lia,fun r rs H8 s8 hr rB=>⟨r,rfl,vs,(s6.trans (s7.trans s8)) _ _ hkl,rs,hr,?_,fun k2 dk=>?_⟩⟩
   ·replace rB:ay (cD H8) rs (eB tb es):=rB
    have e1:=rB.len
    have e2:(eB tb es).length<=tb.length:=by
     unfold eB
     rw[ak8]
     exact alp (al8 _ _) (by rw[lx];exact alm _)
    exact alp (by lia:_<=100) (by decide)
   replace rB:ay (cD H8) rs (eB tb es):=rB
   have u1:=ax (o:=.lst (vs++rs)) dk
   have W:=s5.trans (s6.trans (s7.trans (s8.trans u1)))
   have X8:=S7.trans (s8.trans u1)
   have ml:(eU gs++eB tb es).length<=1000:=by
    rw[alD,xR]
    have e2:(eB tb es).length<=tb.length:=by
     unfold eB
     rw[ak8]
     exact alp (al8 _ _) (by rw[lx];exact alm _)
    lia
   refine⟨s,k2,ys,vs++rs,pp,eU gs++eB tb es,rfl,ah.of (W _ _ cN),PY.same W,ah.of au,ay.app (hM.imp fun _ _ r=>r.same (s6.trans (s7.trans (s8.trans u1)))) (rB.imp fun _ _ r=>r.same u1),ao,by lia,ml,M3,fun cI=>absurd abK cI,fun l9 co H9 s9 f9 hl9 akY dI kz=>⟨bq,fun z hz=>?_⟩⟩
   have u9:=ax (o:=.tup [.str "may",.ref l9]) hz
   refine Q1 _ _ (X8.trans (s9.trans u9)) (.may z l9 co pp gs es rfl au (u9 _ _ hl9) (X8.free f9) (by lia) ep eg dI (fun tt ss hh=>?_) (by lia) fun mm hm=>kz mm (alq _ hm))
   refine kz (tt,ss) (amE _ (am6.mpr ⟨tt,?_⟩))
   have htt:=(alj.mp hh).1
   unfold eU
   rw[alz,amQ htt]
   show some (tt,gs.getD tt _)=_
   rw[ak4,hh]
   rfl
end
section
seal L2.PE L2.PS L2.bw L2.PA
variable {P:alr} {w:alS} {K:ak2} {mg:Str->Option ak3} {base:amH}
structure ik (e t u d m f:Int):Prop where
 he:1<=e/\e<=7
 ht:1<=t/\t<=12
 hu:0<=u/\u<=6 * 1000000000000000000000000000000000000000000000000000000000
 hd:0<=d/\d<=6 * 1000000000000000000000000000000000000000000000000000000000
 hm:0<=m/\m<=e
 hf:1<=f/\f<=1000000000000000000000000000000000000000000000000000000000
noncomputable def gJ (e t u d m f:Int):List V:=[.int e,.int t,.int u,.int d,.int m,.int f]
inductive abL (K:ak2) (vs:List V) (H:Hp) (Q:VK) (a8:XK):Prop
 | mk (a:ala) (ns:List Int) (_:vs=[.ref a]) (_:ah K H a (ns.map V.int)) (_:fu ns) (_:∀ (l:ala) (e t u d m f:Int) (H':Hp),ak H H'->H l=none->H' l=some (.lst (gJ e t u d m f))->ik e t u d m f->Q (.ref l) H')
noncomputable def shA (w e t m:Int):Prop:=(1<=t/\t<=12)/\(1<=e/\e<=7)/\(0<=m/\m<=e)/\(w=1∨w=3∨e<=4)
noncomputable def xS (e t m:Int):Prop:=(1<=t/\t<=12)/\(1<=e/\e<=7)/\(0<=m/\m<=e)
noncomputable def xT (a:ala) (H:Hp) (σ:St) (H':Hp):Prop:=∃ w e t m:Int,σ=[some (.ref a),some (.int w),some (.int e),some (.int t),some (.int m),none,none,none]/\H'=H/\shA w e t m
noncomputable def abM (a:ala) (H:Hp) (σ:St) (H':Hp):Prop:=∃ w e t m:Int,σ=[some (.ref a),some (.int w),some (.int e),some (.int t),some (.int m),none,none,none]/\H'=H/\xS e t m
noncomputable def shJ (a:ala) (H:Hp) (σ:St) (H':Hp):Prop:=∃ w e t m f:Int,σ=[some (.ref a),some (.int w),some (.int e),some (.int t),some (.int m),some (.int f),none,none]/\ak H H'/\xS e t m/\1<=f/\f<=1000000000000000000000000000000000000000000000000000000000
noncomputable def shK (a:ala) (H:Hp) (σ:St) (H':Hp):Prop:=∃ w e t m f u:Int,σ=[some (.ref a),some (.int w),some (.int e),some (.int t),some (.int m),some (.int f),some (.int u),none]/\ak H H'/\xS e t m/\(1<=f/\f<=1000000000000000000000000000000000000000000000000000000000)/\0<=u/\u<=6 * 1000000000000000000000000000000000000000000000000000000000
noncomputable def P5 (a:ala) (H:Hp) (σ:St) (H':Hp):Prop:=∃ w e t m f u d:Int,σ=[some (.ref a),some (.int w),some (.int e),some (.int t),some (.int m),some (.int f),some (.int u),some (.int d)]/\ak H H'/\xS e t m/\(1<=f/\f<=1000000000000000000000000000000000000000000000000000000000)/\(0<=u/\u<=6 * 1000000000000000000000000000000000000000000000000000000000)/\0<=d/\d<=6 * 1000000000000000000000000000000000000000000000000000000000
theorem P6 {p f:Int} (h0:0<=p) (h1:p<7) (f1:1<=f) (f2:f<=1000000000000000000000000000000000000000000000000000000000):0<=p * f/\p * f<=6 * 1000000000000000000000000000000000000000000000000000000000:=by
 have a:=asL (show p<=6 by lia) f2 (by lia) (by decide)
 exact⟨aq8 h0 (by lia),a⟩
theorem abN (T:Tx K mg):aL P w K mg base (aM P w) 3 T.mT T.Cp ["_law_script"] (abL K):=by
 refine okN T.ud cU (fun vs H Q E h=>?_) (fun aI A outer s H vs Q E hr h=>?_)
 ·obtain⟨a,ns,rfl,_⟩:=h
  rfl
 ·obtain⟨a,ns,rfl,hS,hn,q⟩:=h
  refine⟨_,(aq (aD (i:=1) cU.nd rfl (als rfl) (aF (cb T) hr T.b9 T.bO T.bX aB (ae (aa 0) (ae af (ae af ag)))))
  (aq (aD (i:=2) cU.nd rfl (als rfl) (aE bc af (aF (cb T) hr T.b9 T.bO T.bX aB (ae (aa 0) (ae af (ae af ag))))))
  (aq (aD (i:=3) cU.nd rfl (als rfl) (aE bc af (aF (cb T) hr T.b9 T.bO T.bX aB (ae (aa 0) (ae af (ae af ag))))))
  (aq (aD (i:=4) cU.nd rfl (als rfl) (bI (vC rfl) (by rfl) T.rd ou (ae (aa 2) (ae (aF (cb T) hr T.b9 T.bO T.bX aB (ae (aa 0) (ae af (ae af ag)))) ag))))
  (aq (aN (b8 (aa 1) af) (aq (aD (i:=2) cU.nd rfl (als rfl) af)
    (aq (aD (i:=3) cU.nd rfl (als rfl) (aE bc af (aE jA (aa 3) af)))
    (ar (aD (i:=4) cU.nd rfl (als rfl) (aF (cb T) hr T.b9 T.bO T.bX aB (ae (aa 0) (ae af (ae af ag)))))))) aO)
  (aq (aN (b8 (aa 1) af) (aq (aD (i:=2) cU.nd rfl (als rfl) (aE bc af (aE jA (aa 2) af)))
    (aq (aD (i:=3) cU.nd rfl (als rfl) (aE bc af (aF (cb T) hr T.b9 T.bO T.bX aB (ae (aa 0) (ae af (ae af ag))))))
    (ar (aD (i:=4) cU.nd rfl (als rfl) (bI (vC rfl) (by rfl) T.rd ou (ae (aa 2) (ae (aa 4) ag))))))) aO)
  (aq (aN (b8 (aa 1) af) (aq (aD (i:=2) cU.nd rfl (als rfl) (aE bc af (aE jA (aa 2) af)))
    (aq (aD (i:=3) cU.nd rfl (als rfl) af)
    (ar (aD (i:=4) cU.nd rfl (als rfl) (aF (cb T) hr T.b9 T.bO T.bX aB (ae (aa 0) (ae af (ae (aE bc (aa 2) af) ag)))))))) aO)
  (aq (aN (b8 (aa 1) af) (aq (aD (i:=2) cU.nd rfl (als rfl) (aE bc af (aa 2)))
    (aq (aD (i:=3) cU.nd rfl (als rfl) (aE bc af (aF (cb T) hr T.b9 T.bO T.bX aB (ae (aa 0) (ae af (ae af ag))))))
    (ar (aD (i:=4) cU.nd rfl (als rfl) (bI (vC rfl) (by rfl) T.rd ou (ae (aa 4) (ae af ag))))))) aO)
  (aq (aD (i:=5) cU.nd rfl (als rfl) (aw (cF (ae af (ae af (ae af (ae af (ae (aE bc (aE rV af af) af) (ae (aE bc af (aF (Dg T) hr T.Co T.mS T.uc aB (ae (aa 0) (ae af (ae (aE rV af af) ag))))) ag))))))) (aF (cb T) hr T.b9 T.bO T.bX aB (ae (aa 0) (ae af (ae af ag))))))
  (aq (aD (i:=6) cU.nd rfl (als rfl) (aE ia (aF (cb T) hr T.b9 T.bO T.bX aB (ae (aa 0) (ae af (ae af ag)))) (aa 5)))
  (aq (aD (i:=7) cU.nd rfl (als rfl) (aE ia (aF (cb T) hr T.b9 T.bO T.bX aB (ae (aa 0) (ae af (ae af ag)))) (aa 5)))
  (aq (aN (b8 (aF (cb T) hr T.b9 T.bO T.bX aB (ae (aa 0) (ae af (ae af ag)))) af) (aq (aD (i:=6) cU.nd rfl (als rfl) af)
    (ar (aD (i:=7) cU.nd rfl (als rfl) af))) aO)
  (ar (aG (cF (ae (aa 2) (ae (aa 3) (ae (aa 6) (ae (aa 7) (ae (aa 4) (ae (aa 5) ag))))))))))))))))))))),?_⟩
  refine aJ (fun σ H'=>∃ w:Int,σ=[some (.ref a),some (.int w),none,none,none,none,none,none]/\H'=H) (fun N hN=>?_) ?_
  ·walk_at "gzn"
   refine⟨a,ns,_,_,rfl,hS,hn,by lia,by lia,fun p p1 p2=>?_⟩
   walk_at "gzn"
   exact hN _ _ ⟨_,rfl,rfl⟩
  rintro σ H' ⟨w,rfl,rfl⟩
  refine aJ (fun σ H1=>∃ e:Int,σ=[some (.ref a),some (.int w),some (.int e),none,none,none,none,none]/\H1=H'/\1<=e/\e<=4) (fun N hN=>?_) ?_
  ·walk_at "gzn"
   refine⟨a,ns,_,_,rfl,hS,hn,by lia,by lia,fun p p1 p2=>?_⟩
   walk_at "gzn"
   exact hN _ _ ⟨_,rfl,rfl,by lia,by lia⟩
  rintro σ H ⟨e,rfl,rfl,e1,e2⟩
  refine aJ (fun σ H1=>∃ t:Int,σ=[some (.ref a),some (.int w),some (.int e),some (.int t),none,none,none,none]/\H1=H/\1<=t/\t<=4) (fun N hN=>?_) ?_
  ·walk_at "gzn"
   refine⟨a,ns,_,_,rfl,hS,hn,by lia,by lia,fun p p1 p2=>?_⟩
   walk_at "gzn"
   exact hN _ _ ⟨_,rfl,rfl,by lia,by lia⟩
  rintro σ H' ⟨t,rfl,rfl,t1,t2⟩
  refine aJ (xT a H') (fun N hN=>?_) ?_
  ·walk_at "gzn"
   refine⟨a,ns,_,_,rfl,hS,hn,by lia,by lia,fun p p1 p2=>?_⟩
   walk_at "gzn"
   refine hN _ _ ⟨_,_,_,_,rfl,rfl,by lia,by lia,?_,.inr (.inr e2)⟩
   split<;>lia
  rintro σ H ⟨w,e,t,m,rfl,rfl,hA⟩
  refine aJ (xT a H) (fun N hN=>?_) ?_
  ·obtain⟨a1,a2,a3,a4⟩:=id hA
   walk_at "gzn"
   refine bb (fun hw=>?_) fun hw=>?_
   ·subst hw
    refine⟨a,ns,_,_,rfl,hS,hn,by lia,by lia,fun p p1 p2=>?_⟩
    walk_at "gzn"
    exact hN _ _ ⟨_,_,_,_,rfl,rfl,by lia,by lia,by lia,.inl rfl⟩
   ·exact hN _ _ ⟨_,_,_,_,rfl,rfl,hA⟩
  rintro σ H' ⟨w,e,t,m,rfl,rfl,hA⟩
  refine aJ (xT a H') (fun N hN=>?_) ?_
  ·obtain⟨a1,a2,a3,a4⟩:=id hA
   walk_at "gzn"
   refine bb (fun hw=>?_) fun hw=>?_
   ·subst hw
    refine⟨a,ns,_,_,rfl,hS,hn,by lia,by lia,fun p p1 p2=>?_⟩
    walk_at "gzn"
    refine hN _ _ ⟨_,_,_,_,rfl,rfl,by lia,by lia,?_,.inr (.inr (by lia))⟩
    split<;>lia
   ·exact hN _ _ ⟨_,_,_,_,rfl,rfl,hA⟩
  rintro σ H ⟨w,e,t,m,rfl,rfl,hA⟩
  refine aJ (xT a H) (fun N hN=>?_) ?_
  ·obtain⟨a1,a2,a3,a4⟩:=id hA
   walk_at "gzn"
   refine bb (fun hw=>?_) fun hw=>?_
   ·subst hw
    refine⟨a,ns,_,_,rfl,hS,hn,by lia,by lia,fun p p1 p2=>?_⟩
    walk_at "gzn"
    exact hN _ _ ⟨_,_,_,_,rfl,rfl,by lia,by lia,by lia,.inr (.inl rfl)⟩
   ·exact hN _ _ ⟨_,_,_,_,rfl,rfl,hA⟩
  rintro σ H' ⟨w,e,t,m,rfl,rfl,hA⟩
  refine aJ (abM a H') (fun N hN=>?_) ?_
  ·obtain⟨a1,a2,a3,a4⟩:=id hA
   walk_at "gzn"
   refine bb (fun hw=>?_) fun hw=>?_
   ·subst hw
    refine⟨a,ns,_,_,rfl,hS,hn,by lia,by lia,fun p p1 p2=>?_⟩
    walk_at "gzn"
    refine hN _ _ ⟨_,_,_,_,rfl,rfl,by lia,by lia,?_⟩
    split<;>lia
   ·exact hN _ _ ⟨_,_,_,_,rfl,rfl,a1,a2,a3⟩
  rintro σ H ⟨w,e,t,m,rfl,rfl,hA⟩
  refine aJ (shJ a H) (fun N hN=>?_) ?_
  ·walk_at "gzn"
   refine⟨⟨by decide,by decide,by decide⟩,⟨by decide,by decide,by decide⟩,?_⟩
   refine⟨a,ns,_,_,rfl,hS,hn,by lia,by lia,fun f f1 f2=>?_⟩
   walk_at "gzn"
   refine⟨by decide,fun l hl=>?_⟩
   refine⟨a,ns,_,_,rfl,(ax hl).seq hS,hn,by lia,by lia,fun p p1 p2=>?_⟩
   obtain⟨v,hv,ev⟩:=Af (vs:=[1,1,1,1,1000000007,1+f]) p1 p2
   refine aP (ah.of au) ev ?_
   walk_at "gzn"
   refine hN _ _ ⟨_,_,_,_,_,rfl,ax hl,hA,?_⟩
   simp only[alk,ame,or_false] at hv
   lia
  rintro σ H1 ⟨w,e,t,m,f,rfl,s1,hA,f1,f2⟩
  refine aJ (shK a H) (fun N hN=>?_) ?_
  ·walk_at "gzn"
   refine⟨a,ns,_,_,rfl,s1.seq hS,hn,by lia,by lia,fun p p1 p2=>?_⟩
   walk_at "gzn"
   refine⟨iE (by lia) (by lia),?_⟩
   exact hN _ _ ⟨_,_,_,_,_,_,rfl,s1,hA,⟨f1,f2⟩,P6 p1 p2 f1 f2⟩
  rintro σ H2 ⟨w,e,t,m,f,u,rfl,s2,hA,⟨f1,f2⟩,hu⟩
  refine aJ (P5 a H) (fun N hN=>?_) ?_
  ·walk_at "gzn"
   refine⟨a,ns,_,_,rfl,s2.seq hS,hn,by lia,by lia,fun p p1 p2=>?_⟩
   walk_at "gzn"
   refine⟨iE (by lia) (by lia),?_⟩
   exact hN _ _ ⟨_,_,_,_,_,_,_,rfl,s2,hA,⟨f1,f2⟩,hu,P6 p1 p2 f1 f2⟩
  rintro σ H3 ⟨w,e,t,m,f,u,d,rfl,s3,hA,⟨f1,f2⟩,hu,hd⟩
  refine aJ (P5 a H) (fun N hN=>?_) ?_
  ·walk_at "gzn"
   refine⟨a,ns,_,_,rfl,s3.seq hS,hn,by lia,by lia,fun p p1 p2=>?_⟩
   walk_at "gzn"
   refine bb (fun hw=>?_) fun hw=>?_
   ·exact hN _ _ ⟨_,_,_,_,_,_,_,rfl,s3,hA,⟨f1,f2⟩,by decide,by decide⟩
   ·exact hN _ _ ⟨_,_,_,_,_,_,_,rfl,s3,hA,⟨f1,f2⟩,hu,hd⟩
  rintro σ H4 ⟨w,e,t,m,f,u,d,rfl,s4,hA,hf,hu,hd⟩
  walk_at "gzn"
  refine⟨by decide,fun l hl=>?_⟩
  obtain⟨a1,a2,a3⟩:=hA
  exact q l e t u d m f _ (s4.trans (ax hl)) (s4.free hl) au ⟨a2,a1,hu,hd,a3,hf⟩
end
section
seal L2.PE L2.PS L2.bw L2.PA
variable {P:alr} {w:alS} {K:ak2} {mg:Str->Option ak3} {base:amH}
noncomputable def uI (u d:Int) (cs:List Int):Prop:=∀ i,i+1<cs.length->-d<=cs.getD (i+1) 0-cs.getD i 0/\cs.getD (i+1) 0-cs.getD i 0<=u
theorem uI.snoc {u d n k:Int} {cs:List Int} (h:uI u d (cs++[n])) (h1 : -d<=k-n) (h2:k-n<=u):uI u d (cs++[n]++[k]):=by
 intro i hi
 rw[alD,alD,aly,aly] at hi
 by_cases e:i+1<(cs++[n]).length
 ·have:=h i e
  simp only[ak4] at this ⊢
  rw[al7 (l₁:=cs++[n]) e,al7 (l₁:=cs++[n]) (by lia)]
  exact this
 ·rw[alD,aly] at e
  have ei:i=cs.length:=by lia
  subst ei
  have a1:(cs++[n]++[k])[cs.length+1]?=some k:=by simp
  have a2:(cs++[n]++[k])[cs.length]?=some n:=by simp
  simp only[ak4,a1,a2,aqe]
  exact⟨h1,h2⟩
inductive abO (K:ak2) (vs:List V) (H:Hp) (Q:VK) (a8:XK):Prop
 | mk (a b:ala) (ns:List Int) (e t u d m f:Int) (_:vs=[.ref a,.ref b]) (_:ah K H a (ns.map V.int)) (_:fu ns) (_:ah K H b (gJ e t u d m f)) (_:ik e t u d m f) (_:∀ (l:ala) (cs:List Int) (H':Hp),ak H H'->H l=none->H' l=some (.lst (cs.map V.int))->cs.length=t.toNat->uI u d cs->Q (.ref l) H')
inductive abP (H:Hp) (a b l:ala) (z u d:Int) (i:Nat) (σ:St) (H1:Hp):Prop
 | mk (cs:List Int) (n:Int) (e1:Option V) (_:σ=[some (.ref a),some (.ref b),some (.int z),some (.int n),some (.ref l),e1]) (_:ak H H1) (_:H1 l=some (.lst ((cs++[n]).map V.int))) (_:cs.length=i) (_:uI u d (cs++[n]))
theorem abQ (T:Tx K mg):aL P w K mg base (aM P w) 3 T.mU T.Cr ["_law_script","_law_shape_here"] (abO K):=by
 refine okN T.ue qK (fun vs H Q E h=>?_) (fun aI A outer s H vs Q E hr h=>?_)
 ·obtain⟨a,b,ns,e,t,u,d,m,f,rfl,_⟩:=h
  rfl
 ·obtain⟨a,b,ns,e,t,u,d,m,f,rfl,hS,hn,hb,sh,q⟩:=h
  refine⟨_,(aq (aD (i:=2) qK.nd rfl (als rfl) (aw (cF (ae af (ae af (ae (aE rV af af) (ae (aE ia (aE rV af af) (aE rV af af)) ag))))) (aF (cb T) hr T.b9 T.bO T.bX aB (ae (aa 0) (ae af (ae af ag))))))
  (aq (aD (i:=3) qK.nd rfl (als rfl) (aE dQ (aF (Dg T) hr T.Co T.mS T.uc aB (ae (aa 0) (ae af (ae (aE bc (aE ia af (aa 2)) af) ag)))) (aa 2)))
  (aq (aD (i:=4) qK.nd rfl (als rfl) (cF (ae (aa 3) ag)))
  (aq (cO alU rfl (fM rfl T.fe (ae (aE dQ (aw (aa 1) af) af) ag)) (bo (i:=5) qK.nd rfl (als rfl)) (aq (aD (i:=3) qK.nd rfl (als rfl) (aE dQ (aE bc (aa 3) (aF (Dg T) hr T.Co T.mS T.uc aB (ae (aa 0) (ae (aE bc af (aa 5)) (ae (aE bc (aE bc (aw (aa 1) af) (aw (aa 1) af)) af) ag))))) (aw (aa 1) af)))
    (ar (dw (i9 al0 amv amw kM (aa 4) (ae (aa 3) ag))))))
  (ar (aG (aa 4))))))),?_⟩
  obtain⟨⟨e1,e2⟩,⟨t1,t2⟩,⟨u1,u2⟩,⟨d1,d2⟩,-,-⟩:=id sh
  walk_at "gzn"
  refine⟨⟨by decide,by decide,by decide⟩,⟨by decide,by decide,by decide⟩,⟨by decide,by decide,by decide⟩,US (by decide) (by decide),by decide,fun r cz=>?_⟩
  have P1:upd H r (.lst [V.int 9,V.int 1000,V.int 1000000000000000000,V.int 1000000000000000000000000000000000000000000000000000000000000000000000000000000000000000000000000000000000000000000000000]) r=some (.lst (([9,1000,1000000000000000000,1000000000000000000000000000000000000000000000000000000000000000000000000000000000000000000000000000000000000000000000000]:List Int).map V.int)):=au
  have s1:=ax (o:=.lst [V.int 9,V.int 1000,V.int 1000000000000000000,V.int 1000000000000000000000000000000000000000000000000000000000000000000000000000000000000000000000000000000000000000000000000]) cz
  refine⟨a,ns,_,_,rfl,s1.seq hS,hn,by decide,by decide,fun k h1 h2=>?_⟩
  obtain⟨z,hz,ez⟩:=Af (vs:=([9,1000,1000000000000000000,1000000000000000000000000000000000000000000000000000000000000000000000000000000000000000000000000000000000000000000000000]:List Int)) h1 h2
  have hz:0<=z/\z<=1000000000000000000000000000000000000000000000000000000000000000000000000000000000000000000000000000000000000000000000000:=by
   simp only[alk,ame,or_false] at hz
   lia
  refine aP (ah.of P1) ez ?_
  walk_at "gzn"
  generalize upd H r (.lst [V.int 9,V.int 1000,V.int 1000000000000000000,V.int 1000000000000000000000000000000000000000000000000000000000000000000000000000000000000000000000000000000000000000000000000])=H1 at s1 ⊢
  refine⟨iE (by decide) (by lia),?_⟩
  refine⟨a,ns,_,_,rfl,s1.seq hS,hn,by decide,by lia,fun n0 _ _=>?_⟩
  walk_at "gzn"
  refine⟨by decide,fun l hl=>?_⟩
  have cE:H l=none:=s1.free hl
  have s2:=s1.trans (ax (o:=.lst [V.int (n0-z)]) hl)
  refine aP (s2.seq hb) (v:=.int t) rfl ?_
  walk_at "gzn"
  refine⟨by lia,by lia,kR (abP H a b l z u d) ⟨[],_,_,rfl,s2,au,rfl,fun i hi=>?_⟩ ?_ ?_⟩
  ·simp at hi
  ·rintro i σ H3 hi ⟨cs,n,e1,rfl,s3,L3,hlen,cM⟩
   walk_at "gzn"
   refine aP (s3.seq hb) (v:=.int u) rfl (aP (s3.seq hb) (v:=.int d) rfl ?_)
   walk_at "gzn"
   refine⟨a,ns,_,_,rfl,s3.seq hS,hn,by lia,by lia,fun k k1 k2=>?_⟩
   walk_at "gzn"
   refine aP (s3.seq hb) (v:=.int d) rfl ?_
   walk_at "gzn"
   refine⟨.inl ⟨rfl,_,ah.of L3⟩,_,L3,?_,cs++[n],_,_,rfl,fT cE s3,?_,?_,?_⟩
   ·rw[ak8,alD,aly]
    exact al9 (by lia:_<=13) (by decide)
   ·simp only[au,am3,alH,apw]
   ·rw[alD,aly,hlen]
   ·exact cM.snoc (by lia) (by lia)
  ·rintro σ H3 ⟨cs,n,e1,rfl,s3,L3,hlen,cM⟩
   walk_at "gzn"
   exact q l _ H3 s3 cE L3 (by rw[alD,aly];lia) cM
inductive P7 (K:ak2) (vs:List V) (H:Hp) (Q:VK) (a8:XK):Prop
 | mk (a:ala) (ns:List Int) (k f n:Int) (b:Bool) (_:vs=[.ref a,.int k,.int f,.int n,.bl b]) (_:ah K H a (ns.map V.int)) (_:fu ns) (_:(-900000<=k/\k<=900000)) (_:(1<=f/\f<=1000000000000000000000000000000000000000000000000000000000)) (_:∀ (p:ala) (lo hi:En) (H':Hp),ak H H'->H p=none->H' p=some (.tup [ev lo,ev hi])->aY lo hi=false->(b=false->hold lo hi n=true)->Q (.ref p) H')
inductive wdI (a:ala) (H:Hp) (k f n:Int) (b:Bool) (σ:St) (H':Hp):Prop
 | mk (y lo hi:Int) (_:σ=[some (.ref a),some (.int k),some (.int f),some (.int n),some (.bl b),some (.int y),some (.int lo),some (.int hi),none]) (_:ak H H') (_:(1<=y/\y<=1000000000000000000000000000000000000000000000000000000000)) (_:lo<=hi) (_:(b=false->lo<=n/\n<=hi))
inductive abR (a:ala) (H:Hp) (k f n:Int) (b:Bool) (σ:St) (H':Hp):Prop
 | mk (y lo hi:Int) (_:σ=[some (.ref a),some (.int k),some (.int f),some (.int n),some (.bl b),some (.int y),some (.int lo),some (.int hi),none]) (_:ak H H') (_:lo<=hi) (_:(b=false->lo<=n/\n<=hi))
inductive DC (a:ala) (H:Hp) (k f n:Int) (b:Bool) (σ:St) (H':Hp):Prop
 | mk (y g lo:Int) (l h:En) (hi:Int) (_:σ=[some (.ref a),some (.int k),some (.int f),some (.int n),some (.bl b),some (.int y),some (ev l),some (ev h),some (.int g)]) (_:ak H H') (_:(l=none∨l=some lo)) (_:(h=none∨h=some hi)) (_:lo<=hi) (_:(b=false->lo<=n/\n<=hi))
theorem P8 {p y:Int} (h0:0<=p) (y0:0<=y):0<=p * y:=aq8 h0 y0
theorem DD (T:Tx K mg):aL P w K mg base (aM P w) 2 T.mV T.Ct ["_law_script","_law_k","_law_far","_law_number","_law_false"] (P7 K):=by
 refine okN T.mW iR (fun vs H Q E h=>?_) (fun aI A outer s H vs Q E hr h=>?_)
 ·obtain⟨a,ns,k,f,n,b,rfl,_⟩:=h
  rfl
 ·obtain⟨a,ns,k,f,n,b,rfl,hS,hn,hk,hf,q⟩:=h
  refine⟨_,(aq (aD (i:=5) iR.nd rfl (als rfl) (aw (cF (ae af (ae (aa 2) ag))) (aF (cb T) hr T.b9 T.bO T.bX aB (ae (aa 0) (ae (aa 1) (ae af ag))))))
  (aq (aD (i:=6) iR.nd rfl (als rfl) (aE dQ (aa 3) (aE ia (aF (cb T) hr T.b9 T.bO T.bX aB (ae (aa 0) (ae (aE bc (aa 1) af) (ae af ag)))) (aa 5))))
  (aq (aD (i:=7) iR.nd rfl (als rfl) (aE bc (aa 3) (aE ia (aF (cb T) hr T.b9 T.bO T.bX aB (ae (aa 0) (ae (aE bc (aa 1) af) (ae af ag)))) (aa 5))))
  (aq (aN (cT (aa 4)) (aq (aD (i:=5) iR.nd rfl (als rfl) (aE ia (aE dQ (aF (cb T) hr T.b9 T.bO T.bX aB (ae (aa 0) (ae (aE bc (aa 1) af) (ae af ag)))) af) (aa 5)))
    (aq (aD (i:=6) iR.nd rfl (als rfl) (aE bc (aa 6) (aa 5)))
    (ar (aD (i:=7) iR.nd rfl (als rfl) (aE bc (aa 7) (aa 5)))))) aO)
  (aq (aD (i:=8) iR.nd rfl (als rfl) (aF (cb T) hr T.b9 T.bO T.bX aB (ae (aa 0) (ae (aE bc (aa 1) af) (ae af ag)))))
  (aq (aN (PW.pt (cp (b8 (aa 8) af) (dc (b8 (aa 8) af)))) (ar (aD (i:=6) iR.nd rfl (als rfl) bR)) aO)
  (aq (aN (PW.pt (cp (b8 (aa 8) af) (dc (b8 (aa 8) af)))) (ar (aD (i:=7) iR.nd rfl (als rfl) bR)) aO)
  (ar (aG (bg (ae (aa 6) (ae (aa 7) ag)))))))))))),?_⟩
  refine aJ (fun σ H'=>∃ y:Int,σ=[some (.ref a),some (.int k),some (.int f),some (.int n),some (.bl b),some (.int y),none,none,none]/\ak H H'/\1<=y/\y<=1000000000000000000000000000000000000000000000000000000000) (fun N hN=>?_) ?_
  ·walk_at "gzn"
   refine⟨by decide,fun l hl=>?_⟩
   refine⟨a,ns,_,_,rfl,(ax hl).seq hS,hn,by lia,by lia,fun p p1 p2=>?_⟩
   obtain⟨v,hv,ev⟩:=Af (vs:=[1,f]) p1 p2
   refine aP (ah.of au) ev ?_
   walk_at "gzn"
   refine hN _ _ ⟨_,rfl,ax hl,?_⟩
   simp only[alk,ame,or_false] at hv
   lia
  rintro σ H1 ⟨y,rfl,s1,y1,y2⟩
  refine aJ (fun σ H'=>∃ lo:Int,σ=[some (.ref a),some (.int k),some (.int f),some (.int n),some (.bl b),some (.int y),some (.int lo),none,none]/\H'=H1/\lo<=n) (fun N hN=>?_) ?_
  ·walk_at "gzn"
   refine⟨a,ns,_,_,rfl,s1.seq hS,hn,by lia,by lia,fun p p1 p2=>?_⟩
   walk_at "gzn"
   have:=P8 p1 (show 0<=y by lia)
   exact⟨iE (by lia) (by lia),hN _ _ ⟨_,rfl,rfl,by lia⟩⟩
  rintro σ H2 ⟨lo,rfl,rfl,l1⟩
  refine aJ (wdI a H k f n b) (fun N hN=>?_) ?_
  ·walk_at "gzn"
   refine⟨a,ns,_,_,rfl,s1.seq hS,hn,by lia,by lia,fun p p1 p2=>?_⟩
   walk_at "gzn"
   have:=P8 p1 (show 0<=y by lia)
   exact⟨iE (by lia) (by lia),hN _ _ ⟨_,_,_,rfl,s1,⟨y1,y2⟩,by lia,fun _=>by lia⟩⟩
  rintro σ H3 ⟨y,lo,hi,rfl,s3,hy,h1,h2⟩
  refine aJ (abR a H k f n b) (fun N hN=>?_) ?_
  ·cases b with
   | true =>
    walk_at "gzn"
    refine⟨a,ns,_,_,rfl,s3.seq hS,hn,by lia,by lia,fun p p1 p2=>?_⟩
    walk_at "gzn"
    exact⟨iE (by lia) (by lia),hN _ _ ⟨_,_,_,rfl,s3,by lia,fun z=>nomatch z⟩⟩
   | false =>
    walk_at "gzn"
    exact hN _ _ ⟨_,_,_,rfl,s3,h1,h2⟩
  rintro σ H4 ⟨y,lo,hi,rfl,s4,h1,h2⟩
  refine aJ (DC a H k f n b) (fun N hN=>?_) ?_
  ·walk_at "gzn"
   refine⟨a,ns,_,_,rfl,s4.seq hS,hn,by lia,by lia,fun p p1 p2=>?_⟩
   walk_at "gzn"
   exact hN _ _ ⟨_,_,lo,some lo,some hi,hi,rfl,s4,.inr rfl,.inr rfl,h1,h2⟩
  rintro σ H5 ⟨y,g,lo,l,h,hi,rfl,s5,hl,hh,h1,h2⟩
  refine aJ (DC a H k f n b) (fun N hN=>?_) ?_
  ·walk_at "gzn"
   have none_:=hN _ _ ⟨y,g,lo,none,h,hi,rfl,s5,.inl rfl,hh,h1,h2⟩
   have DE:=hN _ _ ⟨y,g,lo,l,h,hi,rfl,s5,hl,hh,h1,h2⟩
   exact bb (fun _=>none_) fun _=>bb (fun _=>none_) fun _=>DE
  rintro σ H6 ⟨y,g,lo,l,h,hi,rfl,s6,hl,hh,h1,h2⟩
  refine aJ (DC a H k f n b) (fun N hN=>?_) ?_
  ·walk_at "gzn"
   have none_:=hN _ _ ⟨y,g,lo,l,none,hi,rfl,s6,hl,.inl rfl,h1,h2⟩
   have DE:=hN _ _ ⟨y,g,lo,l,h,hi,rfl,s6,hl,hh,h1,h2⟩
   exact bb (fun _=>none_) fun _=>bb (fun _=>none_) fun _=>DE
  rintro σ H7 ⟨y,g,lo,l,h,hi,rfl,s7,hl,hh,h1,h2⟩
  walk_at "gzn"
  refine⟨bq,fun p hp=>q p l h _ (s7.trans (ax hp)) (s7.free hp) au ?_ fun hb=>zX.mpr ⟨?_,?_⟩⟩
  ·rcases hl with rfl|rfl<;>rcases hh with rfl|rfl<;>simp[aY]<;>lia
  ·intro x hx
   rcases hl with rfl|rfl<;>cases hx
   exact (h2 hb).1
  ·intro x hx
   rcases hh with rfl|rfl<;>cases hx
   exact (h2 hb).2
end
section
seal L2.PE L2.PS L2.bw L2.PA
variable {P:alr} {w:alS} {K:ak2} {mg:Str->Option ak3} {base:amH}
noncomputable def DF (cs:List Int) (k:Str) (t:Int):Prop:=0<=t/\t<(cs.length:Int)/\(k = "step" -> t+1<(cs.length:Int))
theorem abS {ps:List Pa} {i:Nat} {p:Pa} {k:Str} {t:Int} (h:ps[i]?=some p):sel (ps.take (i+1)) k t=sel (ps.take i) k t++(if iG k t p=true then [p.2.2] else []):=by
 unfold sel
 rw[amK,h,List.filter_append,am3]
 congr 1
 simp only[art,amg,List.filter_nil]
 split<;>rfl
theorem abT (e:S2) (ss:List S2) (s:S2):bz e (ss++[s])=(cX (bz e ss).1 s.1,cY (bz e ss).2 s.2):=by
 unfold bz
 rw[apZ]
 rfl
inductive abU (K:ak2) (vs:List V) (H:Hp) (Q:VK) (a8:XK):Prop
 | mk (lo hi:En) (b:ala) (xs:List V) (ps:List Pa) (k:Str) (t:Int) (_:vs=[ev lo,ev hi,.ref b,.str k,.int t]) (_:ah K H b xs) (_:bT H xs ps) (_:ps.length<=1000) (_:∀ v H',ak H H'->cy H' v (dq (lo,hi) (sel ps k t))->Q v H')
inductive xU (H:Hp) (lo hi:En) (b:ala) (ps:List Pa) (k:Str) (t:Int) (i:Nat) (σ:St) (H1:Hp):Prop
 | mk (e1 e2 e3:Option V) (_:σ=[some (ev (bz (lo,hi) (sel (ps.take i) k t)).1),some (ev (bz (lo,hi) (sel (ps.take i) k t)).2),some (.ref b),some (.str k),some (.int t),e1,e2,e3]) (_:H1=H)
theorem P9 (T:Tx K mg):aL P w K mg base (aM P w) 1 T.m8 T.CF ["_law_lo","_law_hi","_law_claim_here","_law_kind","_law_turn"] (abU K):=by
 refine okN T.qZ qL (fun vs H Q E h=>?_) (fun aI A outer s H vs Q E hr h=>?_)
 ·obtain⟨lo,hi,b,xs,ps,k,t,rfl,_⟩:=h
  rfl
 ·obtain⟨lo,hi,b,xs,ps,k,t,rfl,hX,hP,hn,q⟩:=h
  refine⟨_,(aq (cO alU rfl (eI (aa 2)) (fK rfl (bW (bo (i:=5) qL.nd rfl (als rfl)) (bW (bo (i:=6) qL.nd rfl (als rfl)) (bW (bo (i:=7) qL.nd rfl (als rfl)) fJ)))) (ar (aN (PW.pt (dv (b8 (aa 5) (aa 3)) (dU (b8 (aa 6) (aa 4))))) (aq (aN (PW.pt (dv (dE (aw (aa 7) af)) (dU (PW.pt (cp (c8 (aa 0)) (dc (ib (aw (aa 7) af) (aa 0)))))))) (ar (aD (i:=0) qL.nd rfl (als rfl) (aw (aa 7) af))) aO)
   (ar (aN (PW.pt (dv (dE (aw (aa 7) af)) (dU (PW.pt (cp (c8 (aa 1)) (dc (ki (aw (aa 7) af) (aa 1)))))))) (ar (aD (i:=1) qL.nd rfl (als rfl) (aw (aa 7) af))) aO))) aO)))
  (aq (aN (PW.pt (dv (dE (aa 0)) (dv (dE (aa 1)) (dU (ib (aa 0) (aa 1)))))) (ar (aG bR)) aO)
  (ar (aG (bg (ae (aa 0) (ae (aa 1) ag))))))),?_⟩
  have hl:=hP.len
  refine aJ (xU H lo hi b ps k t xs.length) (fun N hN=>?_) ?_
  ·walk_at "gzn"
   refine⟨⟨_,hX⟩,jc (xs:=xs) (xU H lo hi b ps k t) ⟨_,_,_,rfl,rfl⟩ ?_ ?_ ?_⟩
   ·rintro i σ H1 _ ⟨_,_,_,_,rfl⟩
    exact hX
   ·rintro i x σ H1 hx ⟨e1,e2,e3,rfl,rfl⟩
    obtain⟨p,hp,tp,sp,rfl,h1,h2⟩:=hP.get hx
    refine v7 (aj.of h1) ?_
    have es:=abS (k:=k) (t:=t) hp
    walk_at "gzn"
    try refine⟨rfl,?_⟩
    have skip:iG k t p=false->xU H1 lo hi b ps k t (i+1) [some (ev (bz (lo,hi) (sel (ps.take i) k t)).1),some (ev (bz (lo,hi) (sel (ps.take i) k t)).2),some (.ref b),some (.str k),some (.int t),some (.str p.1),some (.int p.2.1),some (.ref sp)] H1:=fun hz=>⟨_,_,_,by rw[es,hz,if_neg (by simp),asm],rfl⟩
    by_cases hk:p.1=k
    ·rw[if_pos (by rw[hk])]
     refine bb (fun ht=>?_) fun ht=>?_
     ·have hz:iG k t p=true:=by
       unfold iG
       rw[decide_eq_true hk,decide_eq_true ht];rfl
      rw[hz,if_pos rfl] at es
      have fin:xU H1 lo hi b ps k t (i+1) [some (ev (cX (bz (lo,hi) (sel (ps.take i) k t)).1 p.2.2.1)),some (ev (cY (bz (lo,hi) (sel (ps.take i) k t)).2 p.2.2.2)),some (.ref b),some (.str k),some (.int t),some (.str p.1),some (.int p.2.1),some (.ref sp)] H1:=⟨_,_,_,by rw[es,abT],rfl⟩
      generalize (bz (lo,hi) (sel (ps.take i) k t)).1=x at fin ⊢
      generalize (bz (lo,hi) (sel (ps.take i) k t)).2=y at fin ⊢
      obtain⟨pk,pt,pa,pc⟩:=p
      dsimp only at fin h2 ⊢
      rcases pa with _|pa<;>rcases pc with _|pc<;>rcases x with _|x<;>rcases y with _|y
      all_goals repeat' first
       | exact fin
       | refine aA (aj.of h2) rfl ?_
       | (walk_at "gzp")
       | (refine bb (fun hc=>?_) fun hc=>?_)
      all_goals (simp only[cX,cY] at fin;repeat' split at fin)
      all_goals first|exact fin|(exfalso;lia)
     ·refine skip ?_
      unfold iG
      rw[decide_eq_false ht,asJ]
    ·rw[if_neg hk]
     refine skip ?_
     unfold iG
     rw[decide_eq_false hk,apE]
   ·rintro σ H1 h
    exact hN _ _ h
  rintro σ H1 ⟨e1,e2,e3,rfl,rfl⟩
  rw[hl,amO]
  walk_at "gzn"
  unfold dq at q
  generalize bz (lo,hi) (sel ps k t)=z at q ⊢
  refine Zb (fun hc=>?_) fun hc=>?_
  ·rw[if_pos hc] at q
   exact q _ _ (ak.refl _) rfl
  ·rw[if_neg (by rw[hc];simp)] at q
   exact⟨bq,fun p hp=>q _ _ (ax hp) ⟨p,rfl,au⟩⟩
inductive abV (K:ak2) (vs:List V) (H:Hp) (Q:VK) (a8:XK):Prop
 | mk (p:ala) (lo hi:En) (n:Int) (_:vs=[.ref p,.int n]) (_:aj K H p [ev lo,ev hi]) (_:Q (.bl (hold lo hi n)) H)
theorem Qa (T:Tx K mg):aL P w K mg base (aM P w) 1 T.m5 T.CC ["_law_span","_law_number"] (abV K):=by
 refine okN T.qX ZQ (fun vs H Q E h=>?_) (fun aI A outer s H vs Q E hr h=>?_)
 ·obtain⟨p,lo,hi,n,rfl,_⟩:=h
  rfl
 ·obtain⟨p,lo,hi,n,rfl,hp,q⟩:=h
  refine⟨_,(aq (aN (PW.pt (dv (dE (aw (aa 0) af)) (dU (ki (aa 1) (aw (aa 0) af))))) (ar (aG dJ)) aO)
  (ar (aG (Zr (rN (vo (aw (aa 0) af))) (i3 (gP (lN gn) (aa 1) (aw (aa 0) af) (dW _))))))),?_⟩
  rcases lo with _|lo<;>rcases hi with _|hi
  all_goals simp only[zV,zW] at hp
  all_goals
   walk_at "gzn"
   repeat' first
   | refine aA hp rfl ?_
   | (walk_at "gzp")
   | (refine bb (fun hc=>?_) fun hc=>?_)
  all_goals first
   | exact q
   | (rw[Vm _ hc] at q;exact q)
   | (rw[Md _ hc] at q;exact q)
   | (rw[Mc] at q;exact q)
   | (rw[Md _ hc,Mc] at q;exact q)
inductive abW (K:ak2) (vs:List V) (H:Hp) (Q:VK) (a8:XK):Prop
 | mk (a b:ala) (cs:List Int) (xs:List V) (ps:List Pa) (_:vs=[.ref a,.ref b]) (_:ah K H a (cs.map V.int)) (_:ah K H b xs) (_:bT H xs ps) (_:(∀ p∈ps,DF cs p.1 p.2.1)) (_:Q (.bl (jq cs ps)) H)
inductive abX (H:Hp) (a b:ala) (cs:List Int) (ps:List Pa) (i:Nat) (σ:St) (H1:Hp):Prop
 | mk (e1 e2 e3 e4:Option V) (_:σ=[some (.ref a),some (.ref b),e1,e2,e3,e4]) (_:H1=H) (_:jq cs (ps.take i)=true)
theorem abY {cs:List Int} {ps:List Pa} {p:Pa} (h:p∈ps) (hf:hold p.2.2.1 p.2.2.2 (iH cs p.1 p.2.1)=false):jq cs ps=false:=by
 unfold jq
 exact List.all_eq_false.mpr ⟨p,h,by rw[hf];simp⟩
theorem Qb {cs:List Int} {ps:List Pa} {p:Pa} {i:Nat} (h:ps[i]?=some p) (ht:jq cs (ps.take i)=true) (hf:hold p.2.2.1 p.2.2.2 (iH cs p.1 p.2.1)=true):jq cs (ps.take (i+1))=true:=by
 unfold jq at *
 rw[amK,h,List.all_append,ht]
 simp[hf]
theorem abZ (T:Tx K mg):aL P w K mg base (aM P w) 2 T.nh T.CM ["_law_course_here","_law_claim_here"] (abW K):=by
 refine okN T.uq qM (fun vs H Q E h=>?_) (fun aI A outer s H vs Q E hr h=>?_)
 ·obtain⟨a,b,cs,xs,ps,rfl,_⟩:=h
  rfl
 ·obtain⟨a,b,cs,xs,ps,rfl,hS,hX,hP,hk,q⟩:=h
  refine⟨_,(aq (cO alU rfl (eI (aa 1)) (fK rfl (bW (bo (i:=2) qM.nd rfl (als rfl)) (bW (bo (i:=3) qM.nd rfl (als rfl)) (bW (bo (i:=4) qM.nd rfl (als rfl)) fJ)))) (aq (aD (i:=5) qM.nd rfl (als rfl) (aw (aa 0) (aa 3)))
   (aq (aN (b8 (aa 2) bH) (ar (aD (i:=5) qM.nd rfl (als rfl) (aE dQ (aw (aa 0) (aE bc (aa 3) af)) (aa 5)))) aO)
   (ar (aN (cL (cT (aF (Qa T) hr T.O5 T.qX T.xu aB (ae (aa 4) (ae (aa 5) ag))))) (ar (aG dJ)) aO)))))
  (ar (aG dJ))),?_⟩
  have hl:=hP.len
  walk_at "gzn"
  refine⟨⟨_,hX⟩,jc (xs:=xs) (abX H a b cs ps) ⟨_,_,_,_,rfl,rfl,rfl⟩ ?_ ?_ ?_⟩
  ·rintro i σ H1 _ ⟨_,_,_,_,_,rfl,_⟩
   exact hX
  ·rintro i x σ H1 hx ⟨e1,e2,e3,e4,rfl,rfl,hm⟩
   obtain⟨p,hp,tp,sp,rfl,h1,h2⟩:=hP.get hx
   have ok1:=hk p (alx hp)
   obtain⟨o1,o2,o3⟩:=id ok1
   refine v7 (aj.of h1) ?_
   walk_at "gzn"
   refine aP hS (int_at o1 o2) ?_
   walk_at "gzn"
   try refine⟨rfl,?_⟩
   have fin:hold p.2.2.1 p.2.2.2 (iH cs p.1 p.2.1)=false->Q (V.bl false) H1:=fun hf=>by
    rw[abY (alx hp) hf] at q
    exact q
   by_cases hs:p.1 = "step"
   ·rw[if_pos (by rw[hs])]
    have en:iH cs p.1 p.2.1=cs.getD (p.2.1+1).toNat 0-cs.getD p.2.1.toNat 0:=if_pos hs
    refine aP hS (int_at (by lia) (o3 hs)) ?_
    walk_at "gzn"
    rw[<- en]
    refine⟨sp,_,_,_,rfl,aj.of h2,bb (fun hc=>fin hc) fun hc=>⟨_,_,_,_,rfl,rfl,Qb hp hm (by simpa using hc)⟩⟩
   ·rw[if_neg hs]
    have en:iH cs p.1 p.2.1=cs.getD p.2.1.toNat 0:=if_neg hs
    rw[<- en]
    refine⟨sp,_,_,_,rfl,aj.of h2,bb (fun hc=>fin hc) fun hc=>⟨_,_,_,_,rfl,rfl,Qb hp hm (by simpa using hc)⟩⟩
  ·rintro σ H1 ⟨e1,e2,e3,e4,rfl,rfl,hm⟩
   rw[hl,amO] at hm
   rw[hm] at q
   walk_at "gzn"
   exact q
end
section
seal L2.PE L2.PS L2.bw L2.PA
variable {P:alr} {w:alS} {K:ak2} {mg:Str->Option ak3} {base:amH}
inductive ab0 (K:ak2) (vs:List V) (H:Hp) (Q:VK) (a8:XK):Prop
 | mk (b c:ala) (e t u d m f:Int) (xs:List V) (ps:List Pa) (_:vs=[.ref b,.ref c]) (_:ah K H b (gJ e t u d m f)) (_:ik e t u d m f) (_:ah K H c xs) (_:bT H xs ps) (_:ps.length<=900) (_:∀ l ys H',ak H H'->H l=none->H' l=some (.lst ys)->ay (cy H') ys (cV u d ps (t-1).toNat)->Q (.ref l) H')
theorem ab1 (T:Tx K mg):aL P w K mg base (aM P w) 2 T.m9 T.CG ["_law_shape_here","_law_claim_here"] (ab0 K):=by
 refine okN T.uj ZS (fun vs H Q E h=>?_) (fun aI A outer s H vs Q E hr h=>?_)
 ·obtain⟨b,c,e,t,u,d,m,f,xs,ps,rfl,_⟩:=h
  rfl
 ·obtain⟨b,c,e,t,u,d,m,f,xs,ps,rfl,hb,sh,hX,hP,hn,q⟩:=h
  refine⟨_,(ar (aG (fq (di.mk (fr:=[1,0]) (ys:=["_law_claim_here","_law_shape_here"]) rfl (by decide +kernel) rfl (by decide +kernel) rfl rfl (.cons rfl (.cons rfl .nil)) (.cons rfl rfl rfl rfl (.cons rfl rfl rfl rfl .nil)) (by decide) rfl) rfl (fM rfl T.fe (ae (aE dQ (aw (aa 0) af) af) ag)) (fun C s2 H2 ex pn=>⟨iB,(aF (P9 T) hr T.O6 T.qZ T.xA aB (ae (gk gH (dF (K:=K) (aa 2) af)) (ae (dF (K:=K) (aa 2) af) (ae (aa 1) (ae bH (ae (aa 0) ag))))))⟩)))),?_⟩
  have t1:=sh.ht
  walk_at "gzn"
  refine aP hb (v:=.int t) rfl ?_
  walk_at "gzn"
  refine⟨by lia,by lia,ft lg (by rw[ak8,alN];exact alp (by lia:_<=12) (by decide)) (iD (R:=fun _ x (k:Nat)=>x=V.int ((0:Int)+k)) (R':=cy) (f:=fun (k:Nat)=>dq (none,none) ((some (-d),some u)::sel ps "step" (k:Int))) (fun _ _ _ _ _ h=>h) (fun _ _ _ _ s' h=>h.same s') (ay.gK _) (bs:=[]) trivial (fun _ _=>trivial) (fun x k _ H2 s2 r Q h=>?_) (fun x k _ H2 s2 r Q h=>?_) fun H2 zs s2 hz=>?_)⟩
  ·walk_at "gz"
   exact h
  ·subst r
   walk_at "gz"
   refine aP (s2.seq hb) (v:=.int d) rfl ?_
   walk_at "gz"
   refine aP (s2.seq hb) (v:=.int u) rfl ?_
   refine⟨some (-d),some u,c,xs,ps,"step",_,rfl,s2.seq hX,hP.same s2,by lia,fun v H3 s3 hv=>h _ _ s3 ?_⟩
   rw[apC] at hv
   exact hv
  ·intro l hl
   refine q l zs _ (s2.trans (ax hl)) (s2.free hl) au ?_
   rw[al3] at hz
   exact hz.imp fun _ _ r=>r.same (ax hl)
inductive ab2 (K:ak2) (vs:List V) (H:Hp) (Q:VK) (a8:XK):Prop
 | mk (b c:ala) (e t u d m f:Int) (xs:List V) (ps:List Pa) (_:vs=[.ref b,.ref c]) (_:ah K H b (gJ e t u d m f)) (_:ik e t u d m f) (_:ah K H c xs) (_:bT H xs ps) (_:ps.length<=900) (_:∀ l ys H',ak H H'->H l=none->H' l=some (.lst ys)->ay (cy H') ys (cJ ps t.toNat)->Q (.ref l) H')
theorem ab3 (T:Tx K mg):aL P w K mg base (aM P w) 2 T.nc T.CI ["_law_shape_here","_law_claim_here"] (ab2 K):=by
 refine okN T.uk ZT (fun vs H Q E h=>?_) (fun aI A outer s H vs Q E hr h=>?_)
 ·obtain⟨b,c,e,t,u,d,m,f,xs,ps,rfl,_⟩:=h
  rfl
 ·obtain⟨b,c,e,t,u,d,m,f,xs,ps,rfl,hb,sh,hX,hP,hn,q⟩:=h
  refine⟨_,(ar (aG (fq (di.mk (fr:=[1]) (ys:=["_law_claim_here"]) rfl (by decide +kernel) rfl (by decide +kernel) rfl rfl (.cons rfl .nil) (.cons rfl rfl rfl rfl .nil) (by decide) rfl) rfl (fM rfl T.fe (ae (aw (aa 0) af) ag)) (fun C s2 H2 ex pn=>⟨iB,(aF (P9 T) hr T.O6 T.qZ T.xA aB (ae bR (ae bR (ae (aa 1) (ae bH (ae (aa 0) ag))))))⟩)))),?_⟩
  have t1:=sh.ht
  walk_at "gzn"
  refine aP hb (v:=.int t) rfl ?_
  walk_at "gzn"
  refine⟨by lia,by lia,ft lg (by rw[ak8,alN];exact alp (by lia:_<=12) (by decide)) (iD (R:=fun _ x (k:Nat)=>x=V.int ((0:Int)+k)) (R':=cy) (f:=fun (k:Nat)=>dq (none,none) (sel ps "at" (k:Int))) (fun _ _ _ _ _ h=>h) (fun _ _ _ _ s' h=>h.same s') (ay.gK _) (bs:=[]) trivial (fun _ _=>trivial) (fun x k _ H2 s2 r Q h=>?_) (fun x k _ H2 s2 r Q h=>?_) fun H2 zs s2 hz=>?_)⟩
  ·walk_at "gz"
   exact h
  ·subst r
   walk_at "gz"
   refine⟨none,none,c,xs,ps,"at",_,rfl,s2.seq hX,hP.same s2,by lia,fun v H3 s3 hv=>h _ _ s3 ?_⟩
   rw[apC] at hv
   exact hv
  ·intro l hl
   refine q l zs _ (s2.trans (ax hl)) (s2.free hl) au ?_
   rw[al3] at hz
   exact hz.imp fun _ _ r=>r.same (ax hl)
inductive ab4 (K:ak2) (vs:List V) (H:Hp) (Q:VK) (a8:XK):Prop
 | mk (a:ala) (xs:List V) (ps:List P2) (i j:Nat) (_:vs=[.ref a,.int i,.int j]) (_:ah K H a xs) (_:cZ H xs ps) (_:ps.length<=1000) (_:i<=ps.length) (_:j<=ps.length) (_:Q (.int (bB ps i j)) H)
inductive ab5 (H:Hp) (a:ala) (ps:List P2) (i j k:Nat) (σ:St) (H1:Hp):Prop
 | mk (e:Option V) (_:σ=[some (.ref a),some (.int i),some (.int j),some (.int (part ps i j k)),e]) (_:H1=H)
theorem ab6 (T:Tx K mg):aL P w K mg base (aM P w) 1 T.nj T.CQ ["_law_steps_here","_law_one","_law_other"] (ab4 K):=by
 refine okN T.uu tM (fun vs H Q E h=>?_) (fun aI A outer s H vs Q E hr h=>?_)
 ·obtain⟨a,xs,ps,i,j,rfl,_⟩:=h
  rfl
 ·obtain⟨a,xs,ps,i,j,rfl,hS,hP,hn,hi,hj,q⟩:=h
  refine⟨_,(aq (aD (i:=3) tM.nd rfl (als rfl) af)
  (aq (cO alU rfl (Su rfl T.fe (ae (bI (vC rfl) (by rfl) T.rd ou (ae (aa 1) (ae (aa 2) ag))) (ae (bI (SJ rfl) (by rfl) T.O9 Lv (ae (aa 1) (ae (aa 2) ag))) ag))) (bo (i:=4) tM.nd rfl (als rfl)) (ar (aN (ki (aa 1) (aa 2)) (ar (aD (i:=3) tM.nd rfl (als rfl) (aE bc (aa 3) (aw (aw (aa 0) (aa 4)) af)))) (ar (aD (i:=3) tM.nd rfl (als rfl) (aE dQ (aa 3) (aw (aw (aa 0) (aa 4)) af)))))))
  (ar (aG (aa 3))))),?_⟩
  have hl:=hP.len
  walk_at "gzn"
  rw[V3,V4]
  refine⟨by lia,by lia,by lia,by lia,?_⟩
  rw[show (((max i j:Nat):Int)-((min i j:Nat):Int)).toNat=max i j-min i j by lia]
  refine kR (ab5 H a ps i j) ⟨_,by rw[MA.1],rfl⟩ ?_ ?_
  ·rintro k σ H1 hk ⟨e,rfl,rfl⟩
   obtain⟨v,ev,hv⟩:=VU hP (i:=min i j+k) (by lia)
   obtain⟨t,rfl,ht⟩:=hv
   rw[show ((min i j+k:Nat):Int)=((min i j:Nat):Int)+(k:Int) by lia] at ev
   walk_at "gzn"
   split
   ·rename_i h
    refine aP hS ev (aA (aj.of ht) rfl ?_)
    walk_at "gzn"
    refine⟨some (.int (((min i j:Nat):Int)+(k:Int))),?_,rfl⟩
    unfold part
    rw[if_pos (by lia),if_pos (by lia),show min i j+(k+1)=min i j+k+1 by lia,fW _ _ (by lia)]
    simp only[apj,Option.some.injEq,V.int.injEq,true_and,and_true]
    lia
   ·rename_i h
    refine aP hS ev (aA (aj.of ht) rfl ?_)
    walk_at "gzn"
    refine⟨some (.int (((min i j:Nat):Int)+(k:Int))),?_,rfl⟩
    unfold part
    rw[if_neg (by lia),if_neg (by lia),show min i j+(k+1)=min i j+k+1 by lia,fW _ _ (by lia)]
    simp only[apj,Option.some.injEq,V.int.injEq,true_and,and_true]
    lia
  ·rintro σ H1 ⟨e,rfl,rfl⟩
   walk_at "gzn"
   rw[MA.2]
   exact q
end
section
seal L2.PE L2.PS L2.bw L2.PA
variable {P:alr} {w:alS} {K:ak2} {mg:Str->Option ak3} {base:amH}
inductive ab7 (K:ak2) (vs:List V) (H:Hp) (Q:VK) (a8:XK):Prop
 | mk (a:ala) (xs:List V) (ps:List P2) (u v:V) (m n:Mk) (_:vs=[.ref a,u,v]) (_:ah K H a xs) (_:cZ H xs ps) (_:ps.length<=1000) (_:cD H u m) (_:cD H v n) (_:m.1<=ps.length) (_:n.1<=ps.length) (_:Q (.bl (wO ps m n)) H)
theorem ab8 (T:Tx K mg):aL P w K mg base (aM P w) 2 T.nk T.CT ["_law_steps_here","_law_one","_law_other"] (ab7 K):=by
 refine okN T.uv ZU (fun vs H Q E h=>?_) (fun aI A outer s H vs Q E hr h=>?_)
 ·obtain⟨a,xs,ps,u,v,m,n,rfl,_⟩:=h
  rfl
 ·obtain⟨a,xs,ps,u,v,⟨i,lo,hi⟩,⟨j,lo2,wC⟩,rfl,hS,hP,hn,⟨ta,pa,rfl,A1,A2⟩,⟨tb,pb,rfl,B1,B2⟩,hi1,hj1,q⟩:=h
  refine⟨_,(aq (aN (PW.pt (cp (c8 (aw (aw (aa 1) af) af)) (dc (c8 (aw (aw (aa 2) af) af))))) (ar (aG dJ)) aO)
  (ar (aG (gP (lN vB) (aw (aw (aa 2) af) af) (aE bc (aw (aw (aa 1) af) af) (aF (ab6 T) hr T.aak T.uu T.CS aB (ae (aa 0) (ae (aw (aa 1) af) (ae (aw (aa 2) af) ag))))) (dW _))))),?_⟩
  walk_at "gzn"
  refine aA (aj.of A1) rfl (aA (aj.of A2) rfl ?_)
  walk_at "gzn"
  cases hi with
  | none =>
   walk_at "gzn"
   exact q
  | some h =>
   walk_at "gzn"
   refine aA (aj.of B1) rfl (aA (aj.of B2) rfl ?_)
   walk_at "gzn"
   cases lo2 with
   | none =>
    walk_at "gzn"
    exact q
   | some l =>
    walk_at "gzn"
    refine aA (aj.of B1) rfl (aA (aj.of B2) rfl (aA (aj.of A1) rfl (aA (aj.of A2) rfl ?_)))
    walk_at "gzn"
    refine aA (aj.of A1) rfl (aA (aj.of B1) rfl ?_)
    refine⟨a,xs,ps,i,j,rfl,hS,hP,hn,hi1,hj1,?_⟩
    walk_at "gzn"
    rw[show wO ps (i,lo,some h) (j,some l,wC)=decide (h+bB ps i j<l) from decide_eq_decide.mpr (by dsimp only;lia)] at q
    exact q
inductive ab9 (K:ak2) (vs:List V) (H:Hp) (Q:VK) (a8:XK):Prop
 | mk (a w b z:ala) (zs:List V) (gs:List S2) (tb:Tb) (as:List Int) (s:En × Nat) (m:Mk) (_:vs=[.ref a,.ref w,.ref b,.ref z]) (_:H a=some (.tup [ev s.1,.int (s.2:Int)])) (_:ah K H b zs) (_:ay (cy H) zs (gs.map some)) (_:TabAt H w tb) (_:(tb.map (·.1)).Nodup) (_:H z=some (.lst (as.map V.int))) (_:hV gs tb as s m) (_:∀ v H',ak H H'->cD H' v m->Q v H')
theorem Qc (T:Tx K mg):aL P w K mg base (aM P w) 2 T.nq T.CV ["_law_place","_law_told","_law_goals_here","_law_aside"] (ab9 K):=by
 refine okN T.q8 ZV (fun vs H Q E h=>?_) (fun aI A outer s H vs Q E hr h=>?_)
 ·obtain⟨a,w,b,z,zs,gs,tb,as,s,m,rfl,_⟩:=h
  rfl
 ·obtain⟨a,w,b,z,zs,gs,tb,as,⟨o,k⟩,⟨k2,wd⟩,rfl,ha,hb,hG,hT,cS,hz,⟨hk,hm⟩,q⟩:=h
  refine⟨_,(aq (aN (PW.pt (cp (cL (cT (bI oy (by rfl) T.q9 ox (ae (aa 0) (ae (nY (v:=.ty "tuple") rfl T.C8 zr rfl) ag))))) (cp (lO (bI dA (by rfl) T.dr df (ae (aa 0) ag)) af) (dc (cL (cT (aF (xH T) hr T.xy T.ko T.qY aB (ae (aw (aa 0) af) ag)))))))) (ar (aG bR)) aO)
  (aq (aN (c8 (aw (aa 0) af)) (aq (aN (PW.pt (dv (wN gn rX af (aw (aa 0) af) (bI dA (by rfl) T.dr df (ae (aa 2) ag))) (dU (dE (aw (aa 2) (aw (aa 0) af)))))) (ar (aG (bg (ae (aw (aa 0) af) (ae (aw (aa 2) (aw (aa 0) af)) ag))))) aO)
    (ar (aG bR))) aO)
  (aq (aN (PW.pt (cp (cL (cT (aF (xH T) hr T.xy T.ko T.qY aB (ae (aw (aa 0) af) ag)))) (cp (gp K1 (aw (aa 0) af) (aa 3) (by with_unfolding_all rfl)) (dc (rO (Lr (cQ hr) (bg (ae (aw (aa 0) af) (ae (aw (aa 0) af) ag))) (aa 1))))))) (ar (aG bR)) aO)
  (ar (aG (bg (ae (aw (aa 0) af) (ae (kO (cQ hr) (aa 1) (bg (ae (aw (aa 0) af) (ae (aw (aa 0) af) ag))) (fun _ _=>rfl)) ag)))))))),?_⟩
  obtain rfl:k2=k:=hk
  walk_at "gzn"
  refine zu ha ?_
  walk_at "gzn"
  refine⟨_,kQ (aj.of ha),?_⟩
  walk_at "gzn"
  refine aA (aj.of ha) (v:=.int k2) rfl ⟨_,rfl,.inr ⟨_,rfl⟩,?_⟩
  simp only[isWhole]
  walk_at "gzn"
  refine aA (aj.of ha) (v:=ev o) rfl ?_
  cases o with
  | none =>
   obtain⟨v,hv,pz,rfl,hp⟩:=hG.at (i:=k2) (a:=some wd) (by rw[alz,hm];rfl)
   have hkz:=(alj.mp hv).1
   walk_at "gzn"
   refine aA (aj.of ha) (v:=.int k2) rfl ?_
   walk_at "gzn"
   refine bb (fun _=>⟨_,d9 hb,bb (fun _=>?_) fun h0=>absurd (show ((k2:Nat):Int)<((zs.length:Nat):Int) by lia) h0⟩) fun h0=>absurd (show (0:Int)<=((k2:Nat):Int) by lia) h0
   refine aA (aj.of ha) (v:=.int k2) rfl (aP hb (dC hv) ?_)
   walk_at "gzn"
   exact aA (aj.of ha) (v:=.int k2) rfl (aA (aj.of ha) (v:=.int k2) rfl (aP hb (dC hv) ⟨bq,fun t ht=>q _ _ (ax ht) ⟨t,pz,rfl,au,(ax ht) _ _ hp⟩⟩))
  | some e =>
   walk_at "gzn"
   refine aA (aj.of ha) (v:=.int e) rfl ⟨_,rfl,.inr ⟨_,rfl⟩,?_⟩
   simp only[isWhole]
   walk_at "gzn"
   refine aA (aj.of ha) (v:=.int e) rfl ?_
   walk_at "gzn"
   obtain⟨hna,cH⟩:e∉as/\((e,((k2:Nat):Int)),wd)∈tb:=hm
   obtain⟨kvs,ij,hA⟩:=id hT
   obtain⟨vv,hvv,va,rfl,hva⟩:=(hA.val (e,((k2:Nat):Int))).2 _ (oP cS cH)
   refine⟨z,_,rfl,.inl (ah.of hz),rfl,AE as,⟨_,rfl,?_⟩⟩
   rw[wg]
   refine bb (fun h0=>absurd h0 (by simpa using hna)) fun _=>?_
   refine aA (aj.of ha) (v:=.int e) rfl (aA (aj.of ha) (v:=.int k2) rfl ⟨bq,fun p hp=>?_⟩)
   have u1:=ax (o:=.tup [.int e,.int (k2:Int)]) hp
   refine⟨_,cu.t (k:=aZ e (k2:Int)) (u1 _ _ ij) au,?_⟩
   rw[hvv]
   refine bb (fun h0=>nomatch h0) fun _=>?_
   refine aA (aj.of (u1 _ _ ha)) (v:=.int k2) rfl (aA (aj.of (u1 _ _ ha)) (v:=.int e) rfl (aA (aj.of (u1 _ _ ha)) (v:=.int k2) rfl ⟨bq,fun p2 d8=>?_⟩))
   have u2:=ax (o:=.tup [.int e,.int (k2:Int)]) d8
   have U:=u1.trans u2
   refine⟨.ref va,by rw[<- hvv];exact cu.t (k:=aZ e (k2:Int)) (U _ _ ij) au,bq,fun p3 iV=>?_⟩
   have u3:=ax (o:=.tup [.int (k2:Int),.ref va]) iV
   exact q _ _ (U.trans u3) ⟨p3,va,rfl,au,(U.trans u3) _ _ hva⟩
end
section
seal L2.PE L2.PS L2.bw L2.PA
variable {P:alr} {w:alS} {K:ak2} {mg:Str->Option ak3} {base:amH}
theorem uJ:Gd 1 (.tuple [.str "full"]):=.tup fun d hd=>by
 obtain rfl:d = .str "full" := by simpa using hd
 exact Gd.str (by decide +kernel)
theorem DG {w:Str} (h:apA w=true) (j:Int):Gd 1 (.tuple [.str w,.int j]):=.tup fun d hd=>by
 simp only[alk,ame,or_false] at hd
 rcases hd with rfl|rfl
 ·exact Gd.str h
 ·exact Gd.int _
theorem DH {K:ak2} {H:Hp} {x:V} {p:ala} {d:anH} {n:Nat} {Q:VK} (hx:Dat K H x d) (g:Gd n d) (hn:n<=60) (hp:H p=some (.tup [.str "full"])) (bK:amZ d (.tuple [.str "full"])=false) (q:Q (.bl false) H):vQ K false x (.ref p) H Q:=by
 refine⟨d,_,hx,.tup (aj.of hp) (.cons (.str _) .nil),g.lay,uJ.lay,alp g.dep hn,?_⟩
 rw[if_neg (by decide),bK]
 exact q
noncomputable def xV (o:En):anH:=match o with|none=>.none|some i=>.int i
theorem Qd {K:ak2} {H:Hp} (o:En):Dat K H (ev o) (xV o):=by
 cases o with
 | none=>exact .non
 | some i=>exact .int _
noncomputable def nK:Pp->anH
 | .nil=>.none
 | .full=>.tuple [.str "full"]
 | .cls c a b=>.tuple [.str "clash",.tuple [xV c.1.1,.int (c.1.2:Int)],.tuple [xV c.2.1,.int (c.2.2:Int)],nK a,nK b]
theorem uK {K:ak2} {H:Hp}:∀ {t:Pp} {v:V},dt H v t->Dat K H v (nK t)
 | .nil,_,h=>by rw[show _=V.non from h];exact .non
 | .full,_,⟨r,e,h⟩=>by rw[e];exact .tup (aj.of h) (.cons (.str _) .nil)
 | .cls c a b,_,⟨r,p,q,x,y,e,h1,h2,h3,h4,h5⟩=>by
  rw[e]
  exact .tup (aj.of h1) (.cons (.str _) (.cons (.tup (aj.of h2) (.cons (Qd _) (.cons (.int _) .nil))) (.cons (.tup (aj.of h3) (.cons (Qd _) (.cons (.int _) .nil))) (.cons (uK h4) (.cons (uK h5) .nil)))))
theorem Qe (o:En):Gd 0 (xV o):=by
 cases o with
 | none=>exact .of rfl
 | some i=>exact Gd.int _
theorem xW:∀ t:Pp,Gd (bA t+1) (nK t)
 | .nil=>Gd.up (.of rfl:Gd 0 _) (alv _)
 | .full=>uJ.up (by decide)
 | .cls c a b=>.tup fun d hd=>by
  have l1:bA a<=bA (.cls c a b)-1:=by show bA a<=(if bA a<=bA b then bA b else bA a)+1-1;split<;>lia
  have l2:bA b<=bA (.cls c a b)-1:=by show bA b<=(if bA a<=bA b then bA b else bA a)+1-1;split<;>lia
  have l3:1<=bA (.cls c a b):=asH _ _
  simp only[alk,ame,or_false] at hd
  rcases hd with rfl|rfl|rfl|rfl|rfl
  ·exact (Gd.str (by decide +kernel)).up (by lia)
  ·refine Gd.up (n:=1) (.tup fun d hd=>?_) l3
   simp only[alk,ame,or_false] at hd
   rcases hd with rfl|rfl
   ·exact Qe _
   ·exact Gd.int _
  ·refine Gd.up (n:=1) (.tup fun d hd=>?_) l3
   simp only[alk,ame,or_false] at hd
   rcases hd with rfl|rfl
   ·exact Qe _
   ·exact Gd.int _
  ·exact (xW a).up (by lia)
  ·exact (xW b).up (by lia)
theorem aca {ps:List P2} {m n:Mk} (h:clash ps m n):wO ps m n=true:=by
 obtain⟨a,b,e1,e2,e3⟩:=h
 unfold wO
 rw[e1,e2]
 exact decide_eq_true (by lia)
theorem Qf {gs:List S2} {tb:Tb} {as:List Int} {s:En × Nat} {m:Mk} {n:Nat} (h:hV gs tb as s m) (hg:gs.length=n+1) (ht:∀ r∈tb,r.1.2.toNat<=n):m.1<=n:=by
 obtain⟨e,h⟩:=h
 rw[e]
 obtain⟨o,k⟩:=s
 cases o with
 | none =>
  have:=(alj.mp (show gs[k]?=some m.2 from h)).1
  show k<=n
  lia
 | some x=>exact ht _ h.2
inductive rC (H:Hp) (w kn:ala) (sw gw:List W2) (tb:Tb) (m:Int):Prop
 | mk (s gl:ala) (ys zs:List V) (_:H kn=some (.tup [.ref s,.ref gl,.int m])) (_:H s=some (.lst ys)) (_:ay (cy H) ys sw) (_:H gl=some (.lst zs)) (_:ay (cy H) zs gw) (_:gw.length=sw.length+1) (_:sw.length<=900) (_:TabAt H w tb) (_:(tb.map (·.1)).Nodup) (_:∀ r∈tb,r.1.2.toNat<=sw.length)
theorem rC.same {H H':Hp} {w kn:ala} {sw gw:List W2} {tb:Tb} {m:Int} (h:rC H w kn sw gw tb m) (x:ak H H'):rC H' w kn sw gw tb m:=let ⟨s,gl,ys,zs,a,b,c,d,e,f,g,i,j,k⟩:=h;⟨s,gl,ys,zs,x _ _ a,x _ _ b,c.imp fun _ _ r=>r.same x,x _ _ d,e.imp fun _ _ r=>r.same x,f,g,i.same x,j,k⟩
inductive uL (H:Hp) (v:V) (sw gw:List W2) (tb:Tb) (m:Int) (as:List Int) (N:Nat):Prop
 | ky (k:ala) (j:Nat) (_:v = .ref k) (_:H k=some (.tup [.str "step",.int (j:Int)])) (_:sw[j]?=some none)
 | gol (k:ala) (j:Nat) (_:v = .ref k) (_:H k=some (.tup [.str "at",.int (j:Int)])) (_:gw[j]?=some none)
 | pap (t:Pp) (pp:List P2) (gs:List S2) (_:dt H v t) (_:bA t<N) (_:sw=pp.map hU) (_:gw=gs.map some) (_:Val pp gs tb m t as)
theorem uL.same {H H':Hp} {v:V} {sw gw:List W2} {tb:Tb} {m:Int} {as:List Int} {N:Nat} (h:uL H v sw gw tb m as N) (s:ak H H'):uL H' v sw gw tb m as N:=by
 rcases h with ⟨k,j,e,h1,h2⟩|⟨k,j,e,h1,h2⟩|⟨t,pp,gs,h1,h2,h3,h4,h5⟩
 ·exact .ky k j e (s _ _ h1) h2
 ·exact .gol k j e (s _ _ h1) h2
 ·exact .pap t pp gs (h1.same s) h2 h3 h4 h5
inductive xX (K:ak2) (N:Nat) (vs:List V) (H:Hp) (Q:VK) (a8:XK):Prop
 | mk (v:V) (w kn z:ala) (m:Int) (sw gw:List W2) (tb:Tb) (as:List Int) (_:vs=[v,.ref w,.ref kn,.ref z]) (_:0<N) (_:N<=10) (_:rC H w kn sw gw tb m) (_:H z=some (.lst (as.map V.int))) (_:as.length+N<=30) (_:uL H v sw gw tb m as N) (_:∀ H',ak H H'->Q (.bl true) H')
inductive acb (K:ak2) (N:Nat) (vs:List V) (H:Hp) (Q:VK) (a8:XK):Prop
 | mk (v:V) (w kn z:ala) (m:Int) (pp:List P2) (gs:List S2) (tb:Tb) (as:List Int) (c:Cl) (a b:Pp) (_:vs=[v,.ref w,.ref kn,.ref z]) (_:N<=10) (_:rC H w kn (pp.map hU) (gs.map some) tb m) (_:H z=some (.lst (as.map V.int))) (_:as.length+1+N<=30) (_:dt H v (.cls c a b)) (_:bA a<N) (_:bA b<N) (_:(match c.1.1 with|none=>a = .nil|some e=>Val pp gs tb m a (as++[e]))) (_:(match c.2.1 with|none=>b = .nil|some e=>if c.1.1=some e then b = .nil else Val pp gs tb m b (as++[e]))) (_:∀ H',ak H H'->Q (.bl true) H')
theorem acd (T:Tx K mg) (N:Nat) (ih:aL P w K mg base (aM P w) (2 * N+3) T.jE T.ux ["_law_paper","_law_told","_law_known","_law_aside"] (xX K N)):aL P w K mg base (aM P w) (2 * N+4) T.nr T.CW ["_law_paper","_law_told","_law_known","_law_aside"] (acb K N):=by
 refine okN T.uw Bl (fun vs H Q E h=>?_) (fun aI A outer s H vs Q E hr h=>?_)
 ·obtain⟨v,w,kn,z,m,pp,gs,tb,as,c,a,b,rfl,_⟩:=h
  rfl
 ·obtain⟨v,w,kn,z,m,pp,gs,tb,as,⟨⟨o,i⟩,⟨o',i'⟩⟩,a,b,rfl,hN,hK,hz,hl,⟨r,p,p',x,y,rfl,cz,hp,cn,hx,hy⟩,la,lb,ha,hb,q⟩:=h
  refine⟨_,(aq (aD (i:=4) Bl.nd rfl (als rfl) (cc cf (cc cf (aa 0) af (fun _ _=>rfl)) af (fun _ _=>rfl)))
  (aq (aD (i:=5) Bl.nd rfl (als rfl) (cc cf (cc cf (aa 0) af (fun _ _=>rfl)) af (fun _ _=>rfl)))
  (aq (aN (PW.pt (dv (c8 (aa 4)) (dU (dE (cc cf (aa 0) af (fun _ _=>rfl)))))) (ar (aG dJ)) aO)
  (aq (aN (PW.pt (dv (dE (aa 4)) (dU (cL (cT (dB ih (hr.mono (by lia)) rfl T.CZ T.kr.kp T.uy .nil aB (ae (cc cf (aa 0) af (fun _ _=>rfl)) (ae (aa 1) (ae (aa 2) (ae (aE oh (aa 3) (cF (ae (aa 4) ag))) ag)))))))))) (ar (aG dJ)) aO)
  (aq (aN (PW.pt (cp (c8 (aa 5)) (dc (b8 (aa 5) (aa 4))))) (ar (aG (rN (vo (cc cf (aa 0) af (fun _ _=>rfl)))))) aO)
  (ar (aG (dB ih (hr.mono (by lia)) rfl T.CZ T.kr.kp T.uy .nil aB (ae (cc cf (aa 0) af (fun _ _=>rfl)) (ae (aa 1) (ae (aa 2) (ae (aE oh (aa 3) (cF (ae (aa 5) ag))) ag)))))))))))),?_⟩
  dsimp only at ha hb hp cn
  have go:∀ (e:Int) (v:V) (tt:Pp) (H1:Hp) (R:V->Hp->Prop),ak H H1->dt H v tt->bA tt<N->Val pp gs tb m tt (as++[e])->(∀ H2,ak H H2->R (.bl true) H2)->∀ p1,H1 p1=none->∃ uM,upd H1 p1 (.lst [.int e]) z=some (.lst uM)/\∃ uN,upd H1 p1 (.lst [.int e]) p1=some (.lst uN)/\uM.length+uN.length<=alI/\∀ p2,upd H1 p1 (.lst [.int e]) p2=none->xX K N [v,.ref w,.ref kn,.ref p2] (upd (upd H1 p1 (.lst [.int e])) p2 (.lst (uM++uN))) R E0:=fun e v tt H1 R s1 h1 h2 h3 h4 p1 gd=>by
   have u1:=ax (o:=.lst [.int e]) gd
   refine⟨_,u1 _ _ (s1 _ _ hz),_,au,alp (by rw[ak8,aly];lia:_<=100) (by decide),fun p2 d8=>?_⟩
   have u2:=ax (o:=.lst (as.map V.int++[.int e])) d8
   have U:=s1.trans (u1.trans u2)
   exact⟨v,w,kn,p2,m,_,_,tb,as++[e],rfl,by lia,hN,hK.same U,by rw[am3];exact au,by rw[alD,aly];lia,.pap tt pp gs (h1.same U) h2 rfl rfl h3,fun H' s'=>h4 _ (U.trans s')⟩
  refine aJ (fun σ H1=>σ=[some (.ref r),some (.ref w),some (.ref kn),some (.ref z),some (ev o),none]/\H1=H) (fun N hN=>?_) ?_
  ·walk_at "gzn"
   exact aA (aj.of cz) (v:=.ref p) rfl (aA (aj.of hp) (v:=ev o) rfl (hN _ _ ⟨rfl,rfl⟩))
  rintro σ H1 ⟨rfl,rfl⟩
  refine aJ (fun σ H2=>σ=[some (.ref r),some (.ref w),some (.ref kn),some (.ref z),some (ev o),some (ev o')]/\H2=H1) (fun N hN=>?_) ?_
  ·walk_at "gzn"
   exact aA (aj.of cz) (v:=.ref p') rfl (aA (aj.of cn) (v:=ev o') rfl (hN _ _ ⟨rfl,rfl⟩))
  rintro σ H2 ⟨rfl,rfl⟩
  refine aJ (fun σ H3=>σ=[some (.ref r),some (.ref w),some (.ref kn),some (.ref z),some (ev o),some (ev o')]/\H3=H2) (fun N hN=>?_) ?_
  ·walk_at "gzn"
   cases o with
   | none =>
    obtain rfl:a = .nil:=ha
    obtain rfl:x = .non:=hx
    exact aA (aj.of cz) (v:=.non) rfl (hN _ _ ⟨rfl,rfl⟩)
   | some e=>exact hN _ _ ⟨rfl,rfl⟩
  rintro σ H3 ⟨rfl,rfl⟩
  refine aJ (fun σ H4=>σ=[some (.ref r),some (.ref w),some (.ref kn),some (.ref z),some (ev o),some (ev o')]/\ak H3 H4) (fun N hN=>?_) ?_
  ·walk_at "gzn"
   cases o with
   | none=>exact hN _ _ ⟨rfl,ak.refl _⟩
   | some e =>
    walk_at "gzn"
    refine aA (aj.of cz) (v:=x) rfl ⟨by decide,go e x a _ _ (ak.refl _) hx la ha fun H5 s5=>?_⟩
    walk_at "gzn"
    exact hN _ _ ⟨rfl,s5⟩
  rintro σ H4 ⟨rfl,s4⟩
  walk_at "gzn"
  cases o' with
  | none =>
   obtain rfl:b = .nil:=hb
   obtain rfl:y = .non:=hy
   exact aA (aj.of (s4 _ _ cz)) (v:=.non) rfl (q _ s4)
  | some e =>
   walk_at "gzn"
   refine PH (o:=some e) (o':=o) ?_
   replace hb:if o=some e then b = .nil else Val pp gs tb m b (as++[e]):=hb
   by_cases he:o=some e
   ·rw[decide_eq_true he.symm]
    rw[if_pos he] at hb
    subst hb
    obtain rfl:y = .non:=hy
    exact aA (aj.of (s4 _ _ cz)) (v:=.non) rfl (q _ s4)
   ·rw[decide_eq_false (fun h=>he h.symm)]
    rw[if_neg he] at hb
    exact aA (aj.of (s4 _ _ cz)) (v:=y) rfl ⟨by decide,go e y b _ _ s4 hy lb hb fun H5 s5=>q _ s5⟩
end
section
seal L2.PE L2.PS L2.bw L2.PA
variable {P:alr} {w:alS} {K:ak2} {mg:Str->Option ak3} {base:amH}
theorem ace (T:Tx K mg):∀ N,aL P w K mg base (aM P w) (2 * N+3) T.jE T.ux ["_law_paper","_law_told","_law_known","_law_aside"] (xX K N):=by
 intro N
 induction N with
 | zero =>
  refine okN T.kr jB (fun vs H Q E h=>?_) (fun aI A outer s H vs Q E hr h=>?_)
  ·obtain⟨v,w,kn,z,m,sw,gw,tb,as,rfl,hN,_⟩:=h;exact absurd hN (amL _)
  ·obtain⟨v,w,kn,z,m,sw,gw,tb,as,rfl,hN,_⟩:=h;exact absurd hN (amL _)
 | succ N ih =>
  refine okN T.kr jB (fun vs H Q E h=>?_) (fun aI A outer s H vs Q E hr h=>?_)
  ·obtain⟨v,w,kn,z,m,sw,gw,tb,as,rfl,_⟩:=h
   rfl
  ·obtain⟨v,w,kn,z,m,sw,gw,tb,as,rfl,_,hN0,hK,hz,hl,hR,q⟩:=h
   refine⟨_,(aq (vy (aa 2) (fK (n:=3) rfl (bW (bo (i:=4) jB.nd rfl (als rfl)) (bW (bo (i:=5) jB.nd rfl (als rfl)) (bW (bo (i:=6) jB.nd rfl (als rfl)) fJ)))))
    (aq (aN (PW.pt (cp (cL (cT (bI oy (by rfl) T.q9 ox (ae (aa 0) (ae (nY (v:=.ty "tuple") rfl T.C8 zr rfl) ag))))) (dc (b8 (bI dA (by rfl) T.dr df (ae (aa 0) ag)) af)))) (ar (aG dJ)) aO)
    (aq (aN (gp (zU hr.units) (aa 0) (bg (ae bH ag)) (dW _)) (ar (aG (gP (lN vB) (bI dA (by rfl) T.dr df (ae (aa 3) ag)) (aa 6) (dW _)))) aO)
    (aq (aN (PW.pt (dv (b8 (bI dA (by rfl) T.dr df (ae (aa 0) ag)) af) (dU (gp K1 (cc cf (aa 0) af (fun _ _=>rfl)) (bg (ae bH (ae bH ag))) (by with_unfolding_all rfl))))) (aq (aD (i:=7) jB.nd rfl (als rfl) (aa 5))
      (aq (aN (b8 (cc cf (aa 0) af (fun _ _=>rfl)) bH) (ar (aD (i:=7) jB.nd rfl (als rfl) (aa 4))) aO)
      (ar (aG (iQ (dB (xH T) (hr.mono (by lia)) rfl T.xy T.ko.kp T.qY .nil aB (ae (cc cf (aa 0) af (fun _ _=>rfl)) ag)) (iQ (yS gn rX af (cc cf (aa 0) af (fun _ _=>rfl)) (bI dA (by rfl) T.dr df (ae (aa 7) ag))) (i3 (rN (vo (cc cf (aa 7) (cc cf (aa 0) af (fun _ _=>rfl)) (fun _ _=>rfl))))))))))) aO)
    (aq (aN (PW.pt (cp (lO (bI dA (by rfl) T.dr df (ae (aa 0) ag)) af) (cp (lO (cc cf (aa 0) af (fun _ _=>rfl)) bH) (dc (gp (AX (cQ hr)) bR (aa 4) (by with_unfolding_all rfl)))))) (ar (aG dJ)) aO)
    (aq (aD (i:=8) jB.nd rfl (als rfl) (dB (Qc T) (hr.mono (by lia)) rfl T.O7 T.q8.kp T.xB .nil aB (ae (cc cf (aa 0) af (fun _ _=>rfl)) (ae (aa 1) (ae (aa 5) (ae (aa 3) ag))))))
    (aq (aD (i:=9) jB.nd rfl (als rfl) (dB (Qc T) (hr.mono (by lia)) rfl T.O7 T.q8.kp T.xB .nil aB (ae (cc cf (aa 0) af (fun _ _=>rfl)) (ae (aa 1) (ae (aa 5) (ae (aa 3) ag))))))
    (aq (aN (PW.pt (cp (c8 (aa 8)) (cp (c8 (aa 9)) (dc (cL (cT (dB (ab8 T) (hr.mono (by lia)) rfl T.aal T.uv.kp T.CU .nil aB (ae (aa 4) (ae (aa 8) (ae (aa 9) ag)))))))))) (ar (aG dJ)) aO)
    (ar (aG (dB (acd T N ih) (hr.mono (by lia)) rfl T.aam T.uw.kp T.CY .nil aB (ae (aa 0) (ae (aa 1) (ae (aa 2) (ae (aa 3) ag))))))))))))))),?_⟩
   obtain⟨s,gl,ys,zs,xY,hs,hW,hg,hG,iW,hn,hT,cS,hle⟩:=id hK
   have yl:=hW.len
   have zl:=hG.len
   refine aJ (fun σ H1=>σ=[some v,some (.ref w),some (.ref kn),some (.ref z),some (.ref s),some (.ref gl),some (.int m),none,none,none]/\H1=H) (fun N hN=>?_) ?_
   ·walk_at "gzn"
    exact v7 (aj.of xY) (hN _ _ ⟨rfl,rfl⟩)
   rintro σ H1 ⟨rfl,rfl⟩
   have uF:∃ (k:ala) (u:V) (us:List V),v = .ref k/\H1 k=some (.tup (u::us)):=by
    rcases hR with ⟨k,j,rfl,hk,hj⟩|⟨k,j,rfl,hk,hj⟩|⟨t,pp,gs,hp,hh,rfl,rfl,hv⟩
    ·exact⟨k,_,_,rfl,hk⟩
    ·exact⟨k,_,_,rfl,hk⟩
    ·cases t with
     | nil=>exact hv.elim
     | full=>obtain⟨r,rfl,h⟩:=hp;exact⟨r,_,_,rfl,h⟩
     | cls c a b=>obtain⟨r,_,_,_,_,rfl,h,_⟩:=hp;exact⟨r,_,_,rfl,h⟩
   obtain⟨k,u0,us,rfl,hku⟩:=uF
   refine aJ (fun σ H2=>σ=[some (.ref k),some (.ref w),some (.ref kn),some (.ref z),some (.ref s),some (.ref gl),some (.int m),none,none,none]/\H2=H1) (fun N hN=>?_) ?_
   ·walk_at "gzn"
    refine zu hku ?_
    walk_at "gzn"
    refine⟨_,kQ (aj.of hku),?_⟩
    refine bb (fun h0=>absurd h0 (by rw[amn];lia)) fun _=>hN _ _ ⟨rfl,rfl⟩
   rintro σ H2 ⟨rfl,rfl⟩
   rcases hR with ⟨k2,j,e1,hk,hj⟩|⟨k2,j,e1,hk,hj⟩|⟨t,pp,gs,hp,hh,rfl,rfl,hv⟩
   ·cases e1
    refine aJ (fun σ H3=>σ=[some (.ref k),some (.ref w),some (.ref kn),some (.ref z),some (.ref s),some (.ref gl),some (.int m),none,none,none]/\ak H2 H3) (fun N hN=>?_) ?_
    ·walk_at "gzn"
     refine⟨by decide,fun p0 nM=>?_⟩
     have u1:=ax (o:=.tup [.str "full"]) nM
     refine DH (d:=.tuple [.str "step",.int j]) (n:=1) (.tup (aj.of (u1 _ _ hk)) (.cons (.str _) (.cons (.int _) .nil))) (DG (by decide +kernel) _) (by lia) au (by simp[nK,amZ,anL]) ⟨_,rfl,?_⟩
     walk_at "gzn"
     exact hN _ _ ⟨rfl,u1⟩
    rintro σ H3 ⟨rfl,u1⟩
    refine aJ (fun _ _=>False) (fun N hN=>?_) (fun _ _ h=>h.elim)
    walk_at "gzn"
    refine⟨_,kQ (aj.of (u1 _ _ hk)),?_⟩
    refine bb (fun _=>?_) fun zz=>absurd rfl zz
    refine aA (aj.of (u1 _ _ hk)) (v:=.str "step") rfl ⟨bq,fun p2 d8=>?_⟩
    have u2:=ax (o:=.tup [.str "step",.str "at"]) d8
    have U:=u1.trans u2
    refine⟨p2,_,rfl,.inr (aj.of au),rfl,rfl,_,rfl,?_⟩
    rw[if_pos (by decide)]
    refine aA (aj.of (U _ _ hk)) (v:=.str "step") rfl ?_
    walk_at "gzn"
    obtain⟨vj,hvj,rj⟩:=hW.at hj
    obtain rfl:vj = .non:=rj
    have jl:=(alj.mp hvj).1
    refine aA (aj.of (U _ _ hk)) (v:=.int j) rfl ⟨_,rfl,.inr ⟨_,rfl⟩,?_⟩
    simp only[isWhole]
    walk_at "gzn"
    refine aA (aj.of (U _ _ hk)) (v:=.int j) rfl ?_
    walk_at "gzn"
    rw[if_pos (by lia)]
    refine⟨_,d9 (ah.of (U _ _ hs)),?_⟩
    rw[if_pos (by lia)]
    refine aA (aj.of (U _ _ hk)) (v:=.int j) rfl (aP (ah.of (U _ _ hs)) (dC hvj) ?_)
    exact q _ U
   ·cases e1
    refine aJ (fun σ H3=>σ=[some (.ref k),some (.ref w),some (.ref kn),some (.ref z),some (.ref s),some (.ref gl),some (.int m),none,none,none]/\ak H2 H3) (fun N hN=>?_) ?_
    ·walk_at "gzn"
     refine⟨by decide,fun p0 nM=>?_⟩
     have u1:=ax (o:=.tup [.str "full"]) nM
     refine DH (d:=.tuple [.str "at",.int j]) (n:=1) (.tup (aj.of (u1 _ _ hk)) (.cons (.str _) (.cons (.int _) .nil))) (DG (by decide +kernel) _) (by lia) au (by simp[nK,amZ,anL]) ⟨_,rfl,?_⟩
     walk_at "gzn"
     exact hN _ _ ⟨rfl,u1⟩
    rintro σ H3 ⟨rfl,u1⟩
    refine aJ (fun _ _=>False) (fun N hN=>?_) (fun _ _ h=>h.elim)
    walk_at "gzn"
    refine⟨_,kQ (aj.of (u1 _ _ hk)),?_⟩
    refine bb (fun _=>?_) fun zz=>absurd rfl zz
    refine aA (aj.of (u1 _ _ hk)) (v:=.str "at") rfl ⟨bq,fun p2 d8=>?_⟩
    have u2:=ax (o:=.tup [.str "step",.str "at"]) d8
    have U:=u1.trans u2
    refine⟨p2,_,rfl,.inr (aj.of au),rfl,rfl,_,rfl,?_⟩
    rw[if_pos (by decide)]
    refine aA (aj.of (U _ _ hk)) (v:=.str "at") rfl ?_
    walk_at "gzn"
    rw[if_neg (by decide)]
    obtain⟨vj,hvj,rj⟩:=hG.at hj
    obtain rfl:vj = .non:=rj
    have jl:=(alj.mp hvj).1
    refine aA (aj.of (U _ _ hk)) (v:=.int j) rfl ⟨_,rfl,.inr ⟨_,rfl⟩,?_⟩
    simp only[isWhole]
    walk_at "gzn"
    refine aA (aj.of (U _ _ hk)) (v:=.int j) rfl ?_
    walk_at "gzn"
    rw[if_pos (by lia)]
    refine⟨_,d9 (ah.of (U _ _ hg)),?_⟩
    rw[if_pos (by lia)]
    refine aA (aj.of (U _ _ hk)) (v:=.int j) rfl (aP (ah.of (U _ _ hg)) (dC hvj) ?_)
    exact q _ U
   ·cases t with
    | nil=>exact hv.elim
    | full =>
     obtain⟨r,e1,dG⟩:=hp
     cases e1
     refine aJ (fun _ _=>False) (fun N hN=>?_) (fun _ _ h=>h.elim)
     walk_at "gzn"
     refine⟨by decide,fun p0 nM=>?_⟩
     have u1:=ax (o:=.tup [.str "full"]) nM
     refine⟨_,_,.tup (aj.of (u1 _ _ dG)) (.cons (.str _) .nil),.tup (aj.of au) (.cons (.str _) .nil),uJ.lay,uJ.lay,alp uJ.dep (by decide),?_⟩
     rw[if_neg (by decide),show amZ (.tuple [.str "full"]) (.tuple [.str "full"])=true by simp[amZ,anL]]
     refine⟨true,rfl,?_⟩
     walk_at "gzn"
     refine⟨_,d9 (ah.of (u1 _ _ hz)),?_⟩
     rw[ak8,decide_eq_true (show m<((as.length:Nat):Int) from hv)]
     exact q _ u1
    | cls c a b =>
     obtain⟨r,p,p',x,y,e1,hk,gd,d8,hx,hy⟩:=id hp
     cases e1
     refine aJ (fun σ H3=>σ=[some (.ref k),some (.ref w),some (.ref kn),some (.ref z),some (.ref s),some (.ref gl),some (.int m),none,none,none]/\ak H2 H3) (fun N hN=>?_) ?_
     ·walk_at "gzn"
      refine⟨by decide,fun p0 nM=>?_⟩
      have u1:=ax (o:=.tup [.str "full"]) nM
      refine DH (uK (hp.same u1)) (xW _) (by lia) au (by simp[nK,amZ,anL]) ⟨_,rfl,?_⟩
      walk_at "gzn"
      exact hN _ _ ⟨rfl,u1⟩
     rintro σ H3 ⟨rfl,u1⟩
     refine aJ (fun σ H4=>σ=[some (.ref k),some (.ref w),some (.ref kn),some (.ref z),some (.ref s),some (.ref gl),some (.int m),none,none,none]/\H4=H3) (fun N hN=>?_) ?_
     ·walk_at "gzn"
      exact⟨_,kQ (aj.of (u1 _ _ hk)),bb (fun zz=>absurd zz (show ¬ ((5:Nat):Int)=2 by decide)) fun _=>hN _ _ ⟨rfl,rfl⟩⟩
     rintro σ H4 ⟨rfl,rfl⟩
     have hK1:=hK.same u1
     obtain⟨s',gl',DI,xO,e1,tf,Qg,kc,Qh,-,-,jJ,-,-⟩:=id hK1
     cases (u1 _ _ xY).symm.trans e1
     refine aJ (fun σ H5=>σ=[some (.ref k),some (.ref w),some (.ref kn),some (.ref z),some (.ref s),some (.ref gl),some (.int m),none,none,none]/\H5=H4) (fun N hN=>?_) ?_
     ·walk_at "gzn"
      refine⟨_,kQ (aj.of (u1 _ _ hk)),?_⟩
      refine bb (fun zz=>absurd rfl zz) fun _=>?_
      refine aA (aj.of (u1 _ _ hk)) (v:=.str "clash") rfl ?_
      walk_at "gzn"
      obtain⟨n1,n2,_⟩:=wD Qg
      have nn0:DI.any iM=false:=by
       rw[n2]
       exact apO.mpr fun w hw=>by
        obtain⟨p,_,rfl⟩:=alF.mp hw
        simp[hU]
      refine⟨s,DI,rfl,rfl,ah.of tf,n1,_,rfl,?_⟩
      rw[nn0]
      walk_at "gzn"
      exact hN _ _ ⟨rfl,rfl⟩
     rintro σ H5 ⟨rfl,rfl⟩
     obtain⟨⟨mm,nn,mA,mB,bN⟩,va,vb⟩:=hv
     rw[ak8,ak8] at iW
     rw[ak8] at hn hle
     refine aJ (fun σ H6=>∃ v1,σ=[some (.ref k),some (.ref w),some (.ref kn),some (.ref z),some (.ref s),some (.ref gl),some (.int m),none,some v1,none]/\ak H5 H6/\cD H6 v1 mm) (fun N hN=>?_) ?_
     ·walk_at "gzn"
      exact aA (aj.of (u1 _ _ hk)) (v:=.ref p) rfl ⟨p,w,gl,z,xO,gs,tb,as,c.1,mm,rfl,u1 _ _ gd,ah.of kc,Qh,jJ,cS,u1 _ _ hz,mA,fun v1 H6 s6 h6=>hN _ _ ⟨v1,rfl,s6,h6⟩⟩
     rintro σ H6 ⟨v1,rfl,s6,i1⟩
     have S6:=u1.trans s6
     refine aJ (fun σ H7=>∃ v2,σ=[some (.ref k),some (.ref w),some (.ref kn),some (.ref z),some (.ref s),some (.ref gl),some (.int m),none,some v1,some v2]/\ak H6 H7/\cD H7 v2 nn) (fun N hN=>?_) ?_
     ·walk_at "gzn"
      exact aA (aj.of (S6 _ _ hk)) (v:=.ref p') rfl ⟨p',w,gl,z,xO,gs,tb,as,c.2,nn,rfl,S6 _ _ d8,ah.of (s6 _ _ kc),Qh.imp fun _ _ r=>cy.same r s6,jJ.same s6,cS,S6 _ _ hz,mB,fun v2 H7 s7 h7=>hN _ _ ⟨v2,rfl,s7,h7⟩⟩
     rintro σ H7 ⟨v2,rfl,s7,i2⟩
     have S7:=S6.trans s7
     obtain⟨t1,q1,rfl,i1'⟩:=id (i1.same s7)
     obtain⟨t2,q2,rfl,i2'⟩:=id i2
     refine aJ (fun σ H8=>σ=[some (.ref k),some (.ref w),some (.ref kn),some (.ref z),some (.ref s),some (.ref gl),some (.int m),none,some (.ref t1),some (.ref t2)]/\H8=H7) (fun N hN=>?_) ?_
     ·walk_at "gzn"
      refine⟨s,DI,pp,_,_,mm,nn,rfl,ah.of ((s6.trans s7) _ _ tf),AZ (Qg.imp fun _ _ r=>cy.same r (s6.trans s7)),by lia,i1.same s7,i2,Qf mA iW hle,Qf mB iW hle,?_⟩
      rw[aca bN]
      walk_at "gzn"
      exact hN _ _ ⟨rfl,rfl⟩
     rintro σ H8 ⟨rfl,rfl⟩
     have HA:bA a<N:=by
      have h2:(if bA a<=bA b then bA b else bA a)+1<N+1:=hh
      split at h2<;>lia
     have HB:bA b<N:=by
      have h2:(if bA a<=bA b then bA b else bA a)+1<N+1:=hh
      split at h2<;>lia
     walk_at "gzn"
     exact⟨_,w,kn,z,m,pp,gs,tb,as,c,a,b,rfl,by lia,hK.same S7,S7 _ _ hz,by lia,hp.same S7,HA,HB,va,vb,fun H' s'=>q _ (S7.trans s')⟩
end
section
seal L2.PE L2.PS L2.bw L2.PA
variable {P:alr} {w:alS} {K:ak2} {mg:Str->Option ak3} {base:amH}
theorem acf {tb:Tb} {s:P2} {w:S2} {r:P2 × S2} (h:r∈dm tb s w):r∈tb∨r.2=w:=by
 unfold dm at h
 split at h
 ·obtain⟨x,hx,rfl⟩:=alF.mp h
  by_cases e:x.1=s
  ·rw[if_pos e];exact .inr rfl
  ·rw[if_neg e];exact .inl hx
 ·rcases alK.mp h with z|z
  ·exact .inl z
  ·rw[alP.mp z];exact .inr rfl
inductive acg (K:ak2) (vs:List V) (H:Hp) (Q:VK) (a8:XK):Prop
 | mk (a b c:ala) (ns cs:List Int) (e t u d m f:Int) (_:vs=[.ref a,.ref b,.ref c]) (_:ah K H a (ns.map V.int)) (_:fu ns) (_:ah K H b (gJ e t u d m f)) (_:ik e t u d m f) (_:ah K H c (cs.map V.int)) (_:cs.length=t.toNat) (_:∀ (q:ala) (tb:Tb) (H':Hp),ak H H'->H q=none->TabAt H' q tb->bZ e t tb->tb.length<=24->(∀ r∈tb,aY r.2.1 r.2.2=false)->Q (.ref q) H')
noncomputable def Qi (H:Hp) (e t:Int) (q:ala) (H1:Hp):Prop:=∃ tb,ak H H1/\H q=none/\TabAt H1 q tb/\bZ e t tb/\tb.length<=24/\∀ r∈tb,aY r.2.1 r.2.2=false
noncomputable def DJ (σ0:Option V->Option V->Option V->Option V->St) (H:Hp) (e t:Int) (q:ala) (_:Nat) (σ:St) (H1:Hp):Prop:=∃ e1 e2 e3 e4,σ=σ0 e1 e2 e3 e4/\Qi H e t q H1
theorem ach (T:Tx K mg):aL P w K mg base (aM P w) 3 T.mX T.Cv ["_law_script","_law_shape_here","_law_course_here"] (acg K):=by
 refine okN T.ug iS (fun vs H Q E h=>?_) (fun aI A outer s H vs Q E hr h=>?_)
 ·obtain⟨a,b,c,ns,cs,e,t,u,d,m,f,rfl,_⟩:=h
  rfl
 ·obtain⟨a,b,c,ns,cs,e,t,u,d,m,f,rfl,hS,hn,hb,sh,hc,bN,q⟩:=h
  refine⟨_,(aq (aD (i:=3) iS.nd rfl (als rfl) MW)
  (aq (aD (i:=4) iS.nd rfl (als rfl) af)
  (aq (aD (i:=5) iS.nd rfl (als rfl) af)
  (aq (aN (ib (aE ia (aw (aa 1) af) (aw (aa 1) af)) af) (aq (aD (i:=4) iS.nd rfl (als rfl) af)
    (ar (aD (i:=5) iS.nd rfl (als rfl) af))) aO)
  (aq (cO alU rfl (fM rfl T.fe (ae (aw (aa 1) af) ag)) (bo (i:=6) iS.nd rfl (als rfl)) (aq (aD (i:=7) iS.nd rfl (als rfl) (gP rW (aF (cb T) hr T.b9 T.bO T.bX aB (ae (aa 0) (ae (aE bc af (aa 6)) (ae af ag)))) af (dW _)))
    (ar (cO alU rfl (fM rfl T.fe (ae (aw (aa 1) af) ag)) (bo (i:=8) iS.nd rfl (als rfl)) (aq (aD (i:=9) iS.nd rfl (als rfl) (aE bc af (aE ia af (aE bc (aE ia (aa 6) (aw (aa 1) af)) (aa 8)))))
      (ar (aN (PW.pt (dv (ki (bI Wl (by rfl) T.dr df (ae (aa 3) ag)) (aa 5)) (dU (ib (aF (cb T) hr T.b9 T.bO T.bX aB (ae (aa 0) (ae (aa 9) (ae (aa 4) ag)))) (aE dQ (aa 4) af))))) (ar (zo (cQ hr) (aa 3) (bg (ae (aa 6) (ae (aa 8) ag))) (aF (DD T) hr T.Cu T.mW T.uf aB (ae (aa 0) (ae (aE bc (aa 9) af) (ae (aw (aa 1) af) (ae (aw (aa 2) (aa 8)) (ae (aa 7) ag)))))) rfl)) aO)))))))
  (ar (aG (aa 3)))))))),?_⟩
  obtain⟨⟨e1,e2⟩,⟨t1,t2⟩,-,-,-,hf⟩:=id sh
  refine aJ (fun σ H1=>∃ w,σ=[some (.ref a),some (.ref b),some (.ref c),some (.ref w),none,none,none,none,none,none]/\Qi H e t w H1) (fun N hN=>?_) ?_
  ·walk_at "gzn"
   exact fun w nN=>hN _ _ ⟨w,rfl,[],ax nN,nN,⟨[],au,trivial⟩,bZ.nil,alv _,fun _ h=>(nomatch h)⟩
  rintro σ H1 ⟨w,rfl,hw⟩
  obtain⟨_,s1,_⟩:=id hw
  refine aJ (fun σ H2=>σ=[some (.ref a),some (.ref b),some (.ref c),some (.ref w),some (.int 4),none,none,none,none,none]/\H2=H1) (fun N hN=>?_) ?_
  ·walk_at "gzn"
   exact hN _ _ ⟨rfl,rfl⟩
  rintro σ H2 ⟨rfl,rfl⟩
  refine aJ (fun σ H3=>σ=[some (.ref a),some (.ref b),some (.ref c),some (.ref w),some (.int 4),some (.int 24),none,none,none,none]/\H3=H2) (fun N hN=>?_) ?_
  ·walk_at "gzn"
   exact hN _ _ ⟨rfl,rfl⟩
  rintro σ H3 ⟨rfl,rfl⟩
  refine aJ (fun σ H4=>∃ dn lm:Int,σ=[some (.ref a),some (.ref b),some (.ref c),some (.ref w),some (.int dn),some (.int lm),none,none,none,none]/\H4=H3/\(dn=4∨dn=16)/\0<=lm/\lm<=24) (fun N hN=>?_) ?_
  ·walk_at "gzn"
   refine aP (s1.seq hb) (v:=.int e) rfl (aP (s1.seq hb) (v:=.int t) rfl ?_)
   walk_at "gzn"
   refine⟨iE (by lia) (by lia),bb (fun _=>hN _ _ ⟨16,16,rfl,rfl,.inr rfl,by decide,by decide⟩) fun _=>hN _ _ ⟨4,24,rfl,rfl,.inl rfl,by decide,by decide⟩⟩
  rintro σ H4 ⟨dn,lm,rfl,rfl,hdn,hlm⟩
  refine aJ (DJ (fun e1 e2 e3 e4=>[some (.ref a),some (.ref b),some (.ref c),some (.ref w),some (.int dn),some (.int lm),e1,e2,e3,e4]) H e t w 0) (fun N hN=>?_) ?_
  ·walk_at "gzn"
   refine aP (s1.seq hb) (v:=.int e) rfl ?_
   walk_at "gzn"
   refine⟨by lia,by lia,kR (DJ (fun e1 e2 e3 e4=>[some (.ref a),some (.ref b),some (.ref c),some (.ref w),some (.int dn),some (.int lm),e1,e2,e3,e4]) H e t w) ⟨_,_,_,_,rfl,hw⟩ ?_ (fun σ H' h=>hN _ _ h)⟩
   rintro i σ H5 hi ⟨e1,e2,e3,e4,rfl,Qj⟩
   obtain⟨_,s5,_⟩:=id Qj
   walk_at "gzn"
   refine⟨a,ns,_,_,rfl,s5.seq hS,hn,by lia,by lia,fun p p1 p2=>?_⟩
   walk_at "gzn"
   refine aP (s5.seq hb) (v:=.int t) rfl ?_
   walk_at "gzn"
   refine⟨by lia,by lia,kR (DJ (fun e1 e2 e3 e4=>[some (.ref a),some (.ref b),some (.ref c),some (.ref w),some (.int dn),some (.int lm),some (.int (0+(i:Int))),some (.bl (decide (p=1))),e3,e4]) H e t w) ⟨none,none,_,_,rfl,Qj⟩ ?_ ?_⟩
   ·rintro j σ H6 hj ⟨_,_,e3,e4,rfl,uO⟩
    obtain⟨tb,s6,nN,⟨kvs,hk,hT⟩,ao,uP,dI⟩:=id uO
    have bi:(i:Int)<e:=by lia
    have bj:(j:Int)<t:=by lia
    have tl:=hT.len
    have bm:0<=(0+(i:Int)) * t/\(0+(i:Int)) * t<=6 * 12:=⟨aq8 (by lia) (by lia),asL (by lia) t2 (by lia) (by decide)⟩
    walk_at "gzn"
    refine aP (s6.seq hb) (v:=.int t) rfl ⟨iE (by lia) (by lia),iE (by decide) (by lia),kvs,hk,bb (fun ba=>?_) fun _=>⟨none,none,_,_,rfl,uO⟩⟩
    refine⟨a,ns,_,_,rfl,s6.seq hS,hn,by lia,by lia,fun r r1 r2=>bb (fun _=>?_) fun _=>⟨none,none,_,_,rfl,uO⟩⟩
    refine aP (s6.seq hb) (v:=.int f) rfl (aP (s6.seq hc) (int_at (by lia) (by lia)) ?_)
    refine⟨a,ns,_,_,_,_,rfl,s6.seq hS,hn,by lia,hf,fun wp lo hi H7 s7 _ hwp rD _=>⟨bq,fun k nO=>?_⟩⟩
    have u:=ax (o:=.tup [.int (0+(i:Int)),.int (0+(j:Int))]) nO
    have Qk:=(s7.trans u) _ _ hk
    refine⟨_,jb.t (k:=aZ (0+(i:Int)) (0+(j:Int))) Qk au (al9 (by lia:kvs.length<=24) (by decide)),none,none,_,_,rfl,dm tb (0+(i:Int),0+(j:Int)) (lo,hi),fT nN (s6.trans (s7.trans u)),nN,⟨_,au,?_⟩,ao.put ⟨⟨by show 0<=0+(i:Int);lia,by show 0+(i:Int)<e;lia⟩,by show 0<=0+(j:Int);lia,by show 0+(j:Int)<t;lia⟩,?_,fun r hr=>?_⟩
    ·have F:Fr _ (upd _ w (.dT (putK kvs (aZ (0+(i:Int)) (0+(j:Int))) (.ref wp)))):=Am Qk
     exact a9.put (s:=(0+(i:Int),0+(j:Int))) (w:=(lo,hi)) (hT.imp fun v a b z=>(aV.same z (s7.trans u)).fr F) (aV.fr ⟨wp,rfl,u _ _ hwp⟩ F)
    ·have:=M4 tb (0+(i:Int),0+(j:Int)) (lo,hi)
     lia
    ·rcases acf hr with z|z
     ·exact dI r z
     ·rw[z];exact rD
   ·rintro σ H6 ⟨_,_,e3,e4,rfl,uO⟩
    exact⟨_,_,_,_,rfl,uO⟩
  rintro σ H5 ⟨e1,e2,e3,e4,rfl,tb,s5,nN,hT,ao,uP,dI⟩
  walk_at "gzn"
  exact q w tb H5 s5 nN hT ao uP dI
end
section
seal L2.PE L2.PS L2.bw L2.PA
variable {P:alr} {w:alS} {K:ak2} {mg:Str->Option ak3} {base:amH}
theorem aci {tb:Tb} {s:P2} {w:S2} (h:s∉tb.map (·.1)):dm tb s w=tb++[(s,w)]:=by
 unfold dm
 rw[if_neg]
 intro z
 obtain⟨r,hr,e⟩:=ao4.mp z
 exact h (alF.mpr ⟨r,hr,by simpa using e⟩)
theorem acj {α β:Type} {f:α->β} {l:List α} {i:Nat} {a:α} (h:(l.map f).Nodup) (ha:l[i]?=some a):f a∉(l.take i).map f:=by
 have hi:=(alj.mp ha).1
 have e:l=l.take i++a::l.drop (i+1):=by
  have:=amT i l
  rw[amt hi] at this
  rw[ak9 hi] at ha
  cases ha
  exact this.symm
 intro hm
 have h2:((l.take i).map f++f a::(l.drop (i+1)).map f).Nodup:=by
  rw[<- alH,<- am3,<- e]
  exact h
 exact (arP.mp h2).2.2 _ hm _ (.head _) rfl
noncomputable def ack (B:ala) (H3:Hp) (a b w x l p:ala) (e t u d m:Int) (rs:Tb) (i:Nat) (σ:St) (H4:Hp):Prop:=(∃ e1 e2,σ=[some (.ref a),some (.ref b),some (.ref w),some (.ref x),some (.ref l),e1,e2])/\j4 [p] H3 H4/\eS B H4 x e t u d m p (rs.take i)
inductive acm (K:ak2) (B:ala) (vs:List V) (H:Hp) (Q:VK) (a8:XK):Prop
 | mk (a b q:ala) (ns:List Int) (e t u d m f:Int) (tb:Tb) (_:vs=[.ref a,.ref b,.ref q]) (_:ah K H a (ns.map V.int)) (_:fu ns) (_:ah K H b (gJ e t u d m f)) (_:ik e t u d m f) (_:TabAt H q tb) (_:bZ e t tb) (_:tb.length<=30) (_:(∀ r∈tb,aY r.2.1 r.2.2=false)) (_:∀ (x p:ala) (rs:Tb) (H':Hp),ak H H'->H x=none->H p=none->eS B H' x e t u d m p rs->(rs=tb∨rs=tb.reverse)->Q (.ref x) H')
theorem acn (T:Tx K mg):aL P w K mg base (aM P w) 4 T.mY T.Cy ["_law_script","_law_shape_here","_law_told"] (acm K T.aQ):=by
 refine okN T.uh tL (fun vs H Q E h=>?_) (fun aI A outer s H vs Q E hr h=>?_)
 ·obtain⟨a,b,q,ns,e,t,u,d,m,f,tb,rfl,_⟩:=h
  rfl
 ·obtain⟨a,b,w,ns,e,t,u,d,m,f,tb,rfl,hS,hn,hb,sh,hT,ao,Ql,dI,q⟩:=h
  refine⟨_,(aq (aD (i:=3) tL.nd rfl (als rfl) (Tj T.uD (aaK T) (hr.mono (by decide)) rfl T.aaw T.B8 .nil aB (ae (aw (aa 1) af) (ae (aw (aa 1) af) (ae (aw (aa 1) af) (ae (aw (aa 1) af) (ae (aw (aa 1) af) ag)))))))
  (aq (aD (i:=4) tL.nd rfl (als rfl) (r6 (MR rfl) (by rfl) T.nB kP (ae (aa 2) ag)))
  (aq (aN (b8 (aF (cb T) hr T.b9 T.bO T.bX aB (ae (aa 0) (ae af (ae af ag)))) af) (ar (dw (K6 al0 PySem.F.slot_list_reverse PySem.F.type_list_reverse TR (aa 4)))) aO)
  (aq (cO alU rfl (eI (aa 4)) (fK rfl (bW (bo (i:=5) tL.nd rfl (als rfl)) (bW (bo (i:=6) tL.nd rfl (als rfl)) fJ))) (ar (dw (iy (aa 3) T.bP T.Pb (Pe T) (hr.mono (by decide)) T.xn .nil aB (ae (aa 5) (ae (aa 6) (ae (aw (kO (cQ hr) (aa 2) (bg (ae (aa 5) (ae (aa 6) ag))) (fun _ _=>rfl)) af) (ae (aw (kO (cQ hr) (aa 2) (bg (ae (aa 5) (ae (aa 6) ag))) (fun _ _=>rfl)) af) ag))))))))
  (ar (aG (aa 3))))))),?_⟩
  obtain⟨⟨e1,e2⟩,⟨t1,t2⟩,⟨u1,_⟩,⟨d1,_⟩,⟨m1,m2⟩,hf⟩:=id sh
  refine aJ (fun σ H1=>∃ x p,σ=[some (.ref a),some (.ref b),some (.ref w),some (.ref x),none,none,none]/\ak H H1/\H x=none/\H p=none/\eS T.aQ H1 x e t u d m p []) (fun N hN=>?_) ?_
  ·walk_at "gzn"
   refine aP hb (v:=.int e) rfl (aP hb (v:=.int t) rfl (aP hb (v:=.int u) rfl (aP hb (v:=.int d) rfl (aP hb (v:=.int m) rfl fun x dx hx hdx cS=>?_))))
   have okb:gb e t u d m:=⟨⟨e1,e2⟩,⟨t1,t2⟩,u1,d1,m1,m2⟩
   refine⟨x,dx,e,t,u,d,m,rfl,au,fun z=>absurd okb z,fun _ p H1 hp s1 X1 P1=>⟨rfl,?_⟩⟩
   have M:=V6 (C:=T.aQ) (fs:=[]) hx hdx cS
   have S1:ak H H1:=fun b o e=>s1 b o (fun z=>by rw[z,hx] at e;cases e) (M _ _ e)
   exact hN _ _ ⟨x,p,rfl,S1,hx,M.free hp,⟨⟨_,X1⟩,[],P1,trivial⟩⟩
  rintro σ H1 ⟨x,p,rfl,s1,fx,fp,hB⟩
  obtain⟨kvs,hk,hA⟩:=hT
  refine aJ (fun σ H2=>∃ l ys,σ=[some (.ref a),some (.ref b),some (.ref w),some (.ref x),some (.ref l),none,none]/\ak H1 H2/\H1 l=none/\H2 l=some (.lst ys)/\cZ H2 ys (tb.map (·.1))) (fun N hN=>?_) ?_
  ·walk_at "gzn"
   refine⟨kvs,s1 _ _ hk,fun l ys hl nP=>hN _ _ ⟨l,ys,rfl,ax hl,hl,au,?_⟩⟩
   exact ((a9.imp (fun v a b z=>aV.same z s1) hA).sP nP).imp fun _ _ r=>r.same (ax hl)
  rintro σ H2 ⟨l,ys,rfl,s2,fl,hl,hY⟩
  refine aJ (fun σ H3=>∃ (ys:List V) (rs:Tb),σ=[some (.ref a),some (.ref b),some (.ref w),some (.ref x),some (.ref l),none,none]/\ak H1 H3/\H3 l=some (.lst ys)/\cZ H3 ys (rs.map (·.1))/\(rs=tb∨rs=tb.reverse)) (fun N hN=>?_) ?_
  ·walk_at "gzn"
   refine⟨a,ns,_,_,rfl,(s1.trans s2).seq hS,hn,by lia,by lia,fun pp pp1 pp2=>?_⟩
   walk_at "gzn"
   refine bb (fun _=>?_) fun _=>hN _ _ ⟨ys,tb,rfl,s2,hl,hY,.inl rfl⟩
   refine⟨.inl ⟨rfl,_,ah.of hl⟩,_,hl,hN _ _ ⟨ys.reverse,tb.reverse,rfl,fT fl s2,au,?_,.inr rfl⟩⟩
   rw[asd]
   exact cZ.put (ay.rev hY) hl
  rintro σ H3 ⟨ys,rs,rfl,s3,bC,Qm,rE⟩
  have uQ:bZ e t rs:=by
   rcases rE with rfl|rfl
   ·exact ao
   ·refine⟨?_,fun r hr=>ao.2 r (ase.mp hr)⟩
    rw[asd]
    exact (arQ _).nodup_iff.mpr ao.1
  have aco:∀ r∈rs,r∈tb:=fun r hr=>by
   rcases rE with rfl|rfl
   ·exact hr
   ·exact ase.mp hr
  have akZ:rs.length<=30:=by
   rcases rE with rfl|rfl
   ·exact Ql
   ·rw[amy];exact Ql
  have yl:=Qm.len
  rw[ak8] at yl
  refine aJ (fun σ H4=>(∃ e1 e2,σ=[some (.ref a),some (.ref b),some (.ref w),some (.ref x),some (.ref l),e1,e2])/\ak H H4/\eS T.aQ H4 x e t u d m p rs) (fun N hN=>?_) ?_
  ·walk_at "gzn"
   have S3:=s1.trans s3
   have Qn:=hB.same s3
   obtain⟨⟨dx,hx3⟩,kp,iV,hA3⟩:=id Qn
   have lp:l≠p:=fun z=>by rw[z,iV] at bC;cases bC
   have wp:w≠p:=fun z=>by rw[z,fp] at hk;cases hk
   refine⟨⟨_,ah.of bC⟩,jc (xs:=ys) (ack T.aQ H3 a b w x l p e t u d m rs) ⟨⟨_,_,rfl⟩,fun _ _ _ z=>z,Qn⟩ ?_ ?_ ?_⟩
   ·rintro i σ H4 _ ⟨_,bu,_⟩
    exact ah.of (bu l _ (by simpa using lp) bC)
   ·rintro i y σ H4 hy ⟨⟨e1,e2,rfl⟩,bu,rF⟩
    obtain⟨r1,dG,ty,rfl,kL⟩:=Qm.get hy
    rw[alz] at dG
    obtain⟨r,hr,rfl⟩:=alR.mp dG
    have typ:ty≠p:=fun z=>by rw[z,iV] at kL;cases kL
    have nQ:=aco r (alx hr)
    have Qo:=bu w _ (by simpa using wp) (S3 _ _ hk)
    obtain⟨⟨Qp,uR⟩,kq,DK,Qq⟩:=id rF
    obtain⟨v,hv,iv⟩:=(hA.val r.1).2 _ (oP ao.1 nQ)
    obtain⟨va,rfl,hva⟩:=id iv
    have vap:va≠p:=fun z=>by rw[z,fp] at hva;cases hva
    have Qr:=bu va _ (by simpa using vap) (S3 _ _ hva)
    refine jY (aj.of (bu ty _ (by simpa using typ) kL)) ?_
    walk_at "gzn"
    refine⟨_,_,uR,rfl,bq,fun k1 oU=>?_⟩
    have v1:=ax (o:=.tup [.int r.1.1,.int r.1.2]) oU
    refine⟨.ref va,by rw[<- hv];exact cu.t (k:=aZ r.1.1 r.1.2) (v1 _ _ Qo) au,aA (aj.of (v1 _ _ Qr)) rfl ⟨bq,fun k2 dk=>?_⟩⟩
    have v2:=ax (o:=.tup [.int r.1.1,.int r.1.2]) dk
    have kA:=v1.trans v2
    refine⟨.ref va,by rw[<- hv];exact cu.t (k:=aZ r.1.1 r.1.2) (kA _ _ Qo) au,aA (aj.of (kA _ _ Qr)) rfl ?_⟩
    have xZ:=uQ.2 r (alx hr)
    have kl:=Qq.len
    rw[ao2] at kl
    have xp:x≠p:=fun z=>by rw[z,DK] at uR;cases uR
    refine⟨x,p,e,t,u,d,m,r.1.1,r.1.2,r.2.1,r.2.2,kq,rfl,⟨⟨Qp,kA _ _ uR⟩,kA _ _ DK⟩,by lia,fun z=>absurd ⟨xZ,dI r nQ⟩ z,fun _ v9 H9 sb DL DM=>⟨⟨_,_,rfl⟩,fun c o hc ec=>sb c o (by simpa using hc) (kA c o (bu c o hc ec)),?_⟩⟩
    have ek:rs.take (i+1)=dm (rs.take i) r.1 r.2:=by
     rw[aci (acj uQ.1 hr),amK,hr]
     rfl
    rw[ek]
    exact⟨⟨Qp,sb x _ xp (kA _ _ uR)⟩,_,DL,a9.put (Qq.imp fun v a b z=>(aV.same z kA).fr (SameBut.fr sb (kA _ _ DK))) DM⟩
   ·rintro σ H4 ⟨⟨e1,e2,rfl⟩,bu,rF⟩
    rw[yl,amO] at rF
    exact hN _ _ ⟨⟨_,_,rfl⟩,fun c o ec=>bu c o (by simpa using fun z=>by rw[z,fp] at ec;cases ec) (S3 c o ec),rF⟩
  rintro σ H4 ⟨⟨e1,e2,rfl⟩,s4,rF⟩
  walk_at "gzn"
  exact q x p rs H4 s4 fx fp rF rE
end
section
seal L2.PE L2.PS L2.bw L2.PA
variable {P:alr} {w:alS} {K:ak2} {mg:Str->Option ak3} {base:amH}
theorem acp (tb:Tb):Gd 3 (.list (tb.map M8)):=.lst fun d hd=>by
 obtain⟨r,_,rfl⟩:=alF.mp hd
 refine .tup fun d hd=>?_
 simp only[alk,ame,or_false] at hd
 rcases hd with rfl|rfl|rfl
 ·exact (Gd.int _).up (by decide)
 ·exact (Gd.int _).up (by decide)
 ·exact Na r.2
inductive acq (K:ak2) (B:ala) (vs:List V) (H:Hp) (Q:VK) (a8:XK):Prop
 | mk (x p w:ala) (e t u d m:Int) (tb rs:Tb) (_:vs=[.ref x,.ref w]) (_:eS B H x e t u d m p rs) (_:TabAt H w tb) (_:bZ e t tb) (_:rs.Perm tb) (_:tb.length<64) (_:∀ H',ak H H'->Q (.bl true) H')
theorem acr (T:Tx K mg):aL P w K mg base (aM P w) 2 T.ny T.C1 ["_law_board_here","_law_told"] (acq K T.aQ):=by
 refine okN T.uA OR (fun vs H Q E h=>?_) (fun aI A outer s H vs Q E hr h=>?_)
 ·obtain⟨x,p,w,e,t,u,d,m,tb,rs,rfl,_⟩:=h
  rfl
 ·obtain⟨x,p,w,e,t,u,d,m,tb,rs,rfl,hB,hT,ao,cj,c6,q⟩:=h
  refine⟨_,(aq (aD (i:=2) OR.nd rfl (als rfl) (bI Wg (by rfl) T.C7 zq (ae (r6 (MR rfl) (by rfl) T.nB kP (ae (aa 1) ag)) ag)))
  (ar (aG (gP (zU hr.units) (yZ (aa 0) T.bP T.Dd (Dj T) (hr.mono (by decide)) T.ua .nil aB) (fq (di.mk (fr:=[1]) (ys:=["_law_told"]) rfl (by decide +kernel) rfl (by decide +kernel) rfl rfl (.cons rfl .nil) (.cons rfl rfl rfl rfl .nil) (by decide) rfl) rfl (eI (aa 2)) (fun C s2 H2 ex pn=>⟨iB,(bg (ae (dF (K:=K) (aa 0) af) (ae (dF (K:=K) (aa 0) af) (ae (MY (cQ hr) (aa 1) (aa 0) (fun _ _=>rfl)) ag))))⟩)) (dW _))))),?_⟩
  obtain⟨kvs,ij,hA⟩:=id hT
  obtain⟨⟨dx,hx⟩,_⟩:=id hB
  have uS:(rs.map (·.1)).Nodup:=(cj.map _).nodup_iff.mpr ao.1
  walk_at "gzn"
  refine⟨kvs,ij,fun l ys hl nP=>?_⟩
  have P0:ay (fun v (r:P2 × S2)=>cw H v r.1) ys tb:=ay.bind (hA.sP nP)
  have u1:=ax (o:=.lst ys) hl
  refine⟨ys,ah.of au,fY tb,M7 (P0.imp fun _ _ r=>cw.same r u1),by rw[P0.len];exact c6,fun l2 b5=>?_⟩
  have PS:=M6 hA nP
  have pl:=PS.len
  rw[lx] at pl
  generalize cR (fY tb) .non ys=zs at PS pl
  have u2:=ax (o:=.lst zs) b5
  have SS:=u1.trans u2
  have z2:upd (upd H l (.lst ys)) l2 (.lst zs) l2=some (.lst zs):=au
  generalize upd (upd H l (.lst ys)) l2 (.lst zs)=H2 at SS z2
  refine⟨_,_,SS _ _ hx,rfl,x,p,e,t,u,d,m,rs,rfl,hB.same SS,uS,by rw[cj.length_eq];exact c6,fun l3 xs3 H3 s3 _ bC nI=>⟨⟨_,ah.of (s3 _ _ z2)⟩,ft sL (alp (by lia:zs.length<=64) (by decide)) (iD (R:=fun Hx v (r:P2 × S2)=>cw Hx v r.1) (R':=fun Hx v (r:P2 × S2)=>fc Hx v r) (f:=fun r=>r) (bs:=[]) (fun _ _ _ _ s r=>cw.same r s) (fun _ _ _ _ s r=>fc.same r s) (PS.imp fun _ _ r=>cw.same r (SS.trans s3)) trivial (fun H' s'=>ah.of ((s3.trans s') _ _ z2)) (fun v r _ H4 s4 h0 Q h=>?_) (fun v r cz H4 s4 h0 Q h=>?_) fun H4 ts s4 xP=>?_)⟩⟩
  ·walk_at "gzn"
   exact h
  ·obtain⟨ka,rfl,hka⟩:=id h0
   have S4:=SS.trans (s3.trans s4)
   obtain⟨v,hv,iv⟩:=(hA.val r.1).2 _ (oP ao.1 (lr cz))
   walk_at "gzn"
   refine aA (aj.of hka) rfl (aA (aj.of hka) rfl ⟨v,?_,?_⟩)
   ·rw[<- hv];exact cu.t (k:=aZ r.1.1 r.1.2) (S4 _ _ ij) hka
   ·exact⟨by decide,fun z hz=>h _ _ (ax hz) ⟨z,v,rfl,au,aV.same iv (S4.trans (ax hz))⟩⟩
  rw[al3,arV] at xP
  rw[WY uS cj] at nI
  intro l4 ie
  have u4:=ax (o:=.lst ts) ie
  exact sR (.lst (ah.of ((s4.trans u4) _ _ bC)) (An (nI.imp fun _ _ r=>fc.same r (s4.trans u4)))) (.lst (ah.of au) (An (xP.imp fun _ _ r=>fc.same r u4))) (acp _) (by decide) (q _ (SS.trans (s3.trans (s4.trans u4))))
noncomputable def kB (tb:Tb) (cs:List Int) (i:Int):Prop:=∃ r∈tb,r.1.1=i/\hs r.2 (lB cs r.1.2.toNat)=false
inductive acs (K:ak2) (vs:List V) (H:Hp) (Q:VK) (a8:XK):Prop
 | mk (w c:ala) (e t:Int) (tb:Tb) (cs:List Int) (_:vs=[.ref w,.ref c]) (_:TabAt H w tb) (_:bZ e t tb) (_:tb.length<=60) (_:ah K H c (cs.map V.int)) (_:cs.length=t.toNat) (_:∀ (l:ala) (es:List Int) (H':Hp),ak H H'->H l=none->H' l=some (.lst (es.map V.int))->es.Nodup->(∀ i,i∈es↔kB tb cs i)->es.length<=tb.length->Q (.ref l) H')
inductive acu (G H3:Hp) (w c l:ala) (tb:Tb) (cs:List Int) (i:Nat) (σ:St) (H4:Hp):Prop
 | mk (es:List Int) (e1 e2:Option V) (_:σ=[some (.ref w),some (.ref c),some (.ref l),e1,e2]) (_:ak G H4) (_:SameBut l H3 H4) (_:H4 l=some (.lst (es.map V.int))) (_:es.Nodup) (_:(∀ j,j∈es↔kB (tb.take i) cs j)) (_:es.length<=i)
theorem Qs {tb:Tb} {cs:List Int} {r:P2 × S2} {i:Nat} (h:tb[i]?=some r) (j:Int):kB (tb.take (i+1)) cs j↔kB (tb.take i) cs j∨(r.1.1=j/\hs r.2 (lB cs r.1.2.toNat)=false):=by
 unfold kB
 rw[amK,h]
 constructor
 ·rintro ⟨q,hq,h1,h2⟩
  rcases alK.mp hq with z|z
  ·exact .inl ⟨q,z,h1,h2⟩
  ·obtain rfl:q=r:=by simpa using z
   exact .inr ⟨h1,h2⟩
 ·rintro (⟨q,hq,h1,h2⟩|⟨h1,h2⟩)
  ·exact⟨q,amE _ hq,h1,h2⟩
  ·exact⟨r,alq _ (by simp),h1,h2⟩
theorem acv (T:Tx K mg):aL P w K mg base (aM P w) 2 T.ng T.CK ["_law_told","_law_course_here"] (acs K):=by
 refine okN T.um wV (fun vs H Q E h=>?_) (fun aI A outer s H vs Q E hr h=>?_)
 ·obtain⟨w,c,e,t,tb,cs,rfl,_⟩:=h
  rfl
 ·obtain⟨w,c,e,t,tb,cs,rfl,hT,ao,rA,hc,bN,q⟩:=h
  refine⟨_,(aq (aD (i:=2) wV.nd rfl (als rfl) (cF ag))
  (aq (W0 (cO alU rfl (W8 (aa 0)) (fK rfl (bW (bo (i:=3) wV.nd rfl (als rfl)) (bW (bo (i:=4) wV.nd rfl (als rfl)) fJ))) (ar (aN (PW.pt (dv (cL (cT (aF (Qa T) hr T.O5 T.qX T.xu aB (ae (kO (cQ hr) (aa 0) (bg (ae (aa 3) (ae (aa 4) ag))) (fun _ _=>rfl)) (ae (aw (aa 1) (aa 4)) ag))))) (dU (gp K2 (aa 3) (aa 2) (by with_unfolding_all rfl))))) (ar (dw (i9 al0 amv amw kM (aa 2) (ae (aa 3) ag)))) aO))))
  (ar (aG (aa 2))))),?_⟩
  refine aJ (fun σ H1=>∃ l,σ=[some (.ref w),some (.ref c),some (.ref l),none,none]/\ak H H1/\H l=none/\H1 l=some (.lst [])) (fun N hN=>?_) ?_
  ·walk_at "gzn"
   exact⟨alv _,fun l hl=>hN _ _ ⟨l,rfl,ax hl,hl,au⟩⟩
  rintro σ H1 ⟨l,rfl,s1,fl,hl⟩
  obtain⟨kvs,nO,hA⟩:=id hT
  have ij:=s1 _ _ nO
  refine aJ (fun σ H2=>∃ (es:List Int) (e1 e2:Option V),σ=[some (.ref w),some (.ref c),some (.ref l),e1,e2]/\ak H H2/\H2 l=some (.lst (es.map V.int))/\es.Nodup/\(∀ j,j∈es↔kB tb cs j)/\es.length<=tb.length) (fun N hN=>?_) ?_
  ·walk_at "gzn"
   refine⟨w,kvs,ij,fun o=>⟨o,kvs,au,fun nP=>?_⟩⟩
   have Qt:=hA.aX nO (u:=.aX o (.dT kvs))
   have PT:=(a9.aX (hA.imp fun _ _ _ z=>aV.same z s1) ij (u:=.aX o (.dT kvs))).sP nP
   have kl:=PT.len
   rw[ak8] at kl
   have wl:l≠w:=fun z=>by rw[z,nO] at fl;cases fl
   have lH:upd H1 w (.aX o (.dT kvs)) l=some (.lst []):=NC ij hl
   have Qu:ah K (upd H w (.aX o (.dT kvs))) c (cs.map V.int):=Xe nO hc
   have lG:upd H w (.aX o (.dT kvs)) l=none:=by rw[aH wl];exact fl
   have wG:upd H w (.aX o (.dT kvs)) w=some (.aX o (.dT kvs)):=au
   have sG:ak (upd H w (.aX o (.dT kvs))) (upd H1 w (.aX o (.dT kvs))):=fun b u h=>by
    by_cases hb:b=w
    ·subst hb;rw[au] at h ⊢;exact h
    ·rw[aH hb] at h ⊢;exact s1 _ _ h
   have Qv:∀ H4,ak (upd H w (.aX o (.dT kvs))) H4->ak H (upd H4 w (.dT kvs)):=fun H4 s4=>Xb nO s4
   generalize upd H1 w (.aX o (.dT kvs))=H3 at PT lH sG nP
   generalize upd H w (.aX o (.dT kvs))=G at Qt Qu lG wG sG Qv
   refine Xa (xs:=iK o) (acu G H3 w c l tb cs) rfl (by rw[kl,hA.len]) ⟨[],_,_,rfl,sG,fun _ _ _ z=>z,lH,aoU,fun j=>⟨fun z=>(nomatch z),fun ⟨r,hr,_⟩=>by simp at hr⟩,alm _⟩ ?_ ?_ ?_
   ·rintro i σ H4 _ ⟨es,e1,e2,_,s4,_⟩
    exact s4 _ _ wG
   ·rintro i v σ H4 hv ⟨es,e1,e2,rfl,s4,sb,ie,cS,hmem,hlen⟩
    obtain⟨s0,Qw,ka,rfl,hka⟩:=PT.get hv
    rw[alz] at Qw
    obtain⟨r,hr,rfl⟩:=alR.mp Qw
    have nQ:=alx hr
    obtain⟨⟨b1,b2⟩,b3,b4⟩:=ao.2 r nQ
    have wz:=(alj.mp hr).1
    obtain⟨vv,hvv,va,rfl,hva⟩:=(Qt.val r.1).2 _ (oP ao.1 nQ)
    have acw:=sb ka _ (fun z=>by rw[z,lH] at hka;cases hka) hka
    have Qx:∀ (b:Bool),hs r.2 (lB cs r.1.2.toNat)=b->(b=true∨r.1.1∈es)->∀ j,j∈es↔kB (tb.take (i+1)) cs j:=fun b hb h j=>by
     rw[Qs hr j,hmem j]
     constructor
     ·exact fun z=>.inl z
     ·rintro (z|⟨z1,z2⟩)
      ·exact z
      ·rcases h with h|h
       ·rw[h] at hb;rw[hb] at z2;cases z2
       ·rw[<- z1];exact (hmem _).mp h
    refine jY (aj.of acw) ?_
    walk_at "gzn"
    refine⟨bq,fun p hp=>?_⟩
    have up:=ax (o:=.tup [.int r.1.1,.int r.1.2]) hp
    have kp:upd H4 p (.tup [.int r.1.1,.int r.1.2]) p=some (.tup [.int r.1.1,.int r.1.2]):=au
    have S5:=s4.trans up
    have x4:SameBut l H3 (upd H4 p (.tup [.int r.1.1,.int r.1.2])):=fun b o hb h=>up _ _ (sb b o hb h)
    have l5:=up _ _ ie
    generalize upd H4 p (.tup [.int r.1.1,.int r.1.2])=H5 at kp S5 x4 l5
    refine⟨.ref va,by rw[<- hvv];exact cu.z (k:=aZ r.1.1 r.1.2) (S5 _ _ wG) kp,aP (S5.seq Qu) ((congrArg (cB _) (show r.1.2=((r.1.2.toNat:Nat):Int) by lia)).trans (dC (ND (by lia)))) ⟨va,r.2.1,r.2.2,lB cs r.1.2.toNat,rfl,aj.of (S5 _ _ hva),bb (fun hf=>?_) fun hf=>?_⟩⟩
    ·refine⟨l,_,rfl,.inl (ah.of l5),rfl,AE es,⟨_,rfl,?_⟩⟩
     rw[if_pos rfl,wg]
     refine bb (fun hk=>?_) fun hk=>?_
     ·have acx:r.1.1∉es:=by simpa using hk
      refine⟨.inl ⟨rfl,_,ah.of l5⟩,_,l5,al9 (by rw[ak8];lia:_<=60) (by decide),es++[r.1.1],_,_,rfl,fT lG S5,fun b o hb h=>by rw[aH hb];exact x4 b o hb h,by rw[au,am3];rfl,arP.mpr ⟨cS,amo.mpr ⟨by simp,aoU⟩,fun a ha b hb=>by
       obtain rfl:b=r.1.1:=by simpa using hb
       exact fun z=>acx (z ▸ ha)⟩,fun j=>?_,by rw[alD,aly];lia⟩
      rw[Qs hr j,alK,hmem j,alP]
      exact⟨fun z=>z.imp id fun z=>⟨z.symm,hf⟩,fun z=>z.imp id fun z=>z.1.symm⟩
     ·have cH:r.1.1∈es:=by simpa using hk
      exact⟨es,_,_,rfl,S5,x4,l5,cS,Qx _ rfl (.inr cH),by lia⟩
    ·exact⟨es,_,_,rfl,S5,x4,l5,cS,Qx _ rfl (.inl (show hold r.2.1 r.2.2 (lB cs r.1.2.toNat)=true by simpa using hf)),by lia⟩
   ·rintro σ H4 ⟨es,e1,e2,rfl,s4,sb,ie,cS,hmem,hlen⟩
    have tl:(iK o).length=tb.length:=kl
    rw[tl] at hlen hmem
    rw[amO] at hmem
    have w4:=s4 _ _ wG
    exact⟨w4,hN _ _ ⟨es,e1,e2,rfl,Qv _ s4,Xd w4 ie,cS,hmem,hlen⟩⟩
  rintro σ H2 ⟨es,e1,e2,rfl,s2,b5,cS,hmem,hlen⟩
  walk_at "gzn"
  exact q l es H2 s2 fl b5 cS hmem hlen
end
section
seal L2.PE L2.PS L2.bw L2.PA
variable {P:alr} {w:alS} {K:ak2} {mg:Str->Option ak3} {base:amH}
theorem acy {cs:List Int} {ps:List Pa} {u d t:Int} {pp:List P2} {gs:List S2} (ht:1<=t) (bN:cs.length=t.toNat) (hk:eO t ps) (es:cV u d ps (t-1).toNat=pp.map hU) (eg:cJ ps t.toNat=gs.map some) (dI:j6 pp (a7 cs)) (kz:∀ (k:Nat) s,gs[k]?=some s->bL s (a7 cs k)) :
 jq cs ps=true/\(∀ k,k+1<cs.length->-d<=a7 cs (k+1)-a7 cs k/\a7 cs (k+1)-a7 cs k<=u)/\∀ p∈ps,DF cs p.1 p.2.1:=by
 have Qy:∀ k,k<(t-1).toNat->∀ s∈(some (-d),some u)::sel ps "step" (k:Int),bL s (a7 cs (k+1)-a7 cs k):=by
  intro k ed
  have e:(cV u d ps (t-1).toNat)[k]?=some (dq (none,none) ((some (-d),some u)::sel ps "step" (k:Int))):=by
   unfold cV
   rw[alz,amQ ed]
   rfl
  rw[es,alz] at e
  obtain⟨p,hp,e2⟩:=alR.mp e
  have nR:=(alj.mp hp).1
  have ek:aK pp k=p:=by
   unfold aK
   rw[ak4,hp]
   rfl
  have h:=dI k nR
  rw[ek] at h
  refine Au.mp ?_
  rw[<- e2]
  exact⟨_,rfl,fun a z=>by cases z;exact h.1,fun b z=>by cases z;exact h.2⟩
 have acz:∀ k,k<t.toNat->∀ s∈sel ps "at" (k:Int),bL s (a7 cs k):=by
  intro k ed
  have e:(cJ ps t.toNat)[k]?=some (dq (none,none) (sel ps "at" (k:Int))):=by
   unfold cJ
   rw[alz,amQ ed]
   rfl
  rw[eg,alz] at e
  obtain⟨s,hs,e2⟩:=alR.mp e
  refine Au.mp ?_
  rw[<- e2]
  exact⟨_,rfl,kz k s hs⟩
 have mem:∀ p∈ps,∀ (k:Str) (i:Int),p.1=k->p.2.1=i->p.2.2∈sel ps k i:=fun p hp k i e1 e2=>by
  unfold sel
  exact alF.mpr ⟨p,ama.mpr ⟨hp,by unfold iG;rw[decide_eq_true e1,decide_eq_true e2];rfl⟩,rfl⟩
 refine⟨amA.mpr fun p hp=>?_,fun k ed=>?_,fun p hp=>?_⟩
 ·have h:=hk p hp
  refine Ar.mp ?_
  by_cases hs:p.1 = "step"
  ·rw[hs,Ao] at h
   have en:iH cs p.1 p.2.1=a7 cs (p.2.1.toNat+1)-a7 cs p.2.1.toNat:=by
    unfold iH a7
    rw[if_pos hs,show (p.2.1+1).toNat=p.2.1.toNat+1 by lia]
   rw[en]
   exact Qy p.2.1.toNat (by lia) _ (.tail _ (mem p hp _ _ hs (by lia)))
  ·rw[sQ hs] at h
   have en:iH cs p.1 p.2.1=a7 cs p.2.1.toNat:=by
    unfold iH a7
    rw[if_neg hs]
   rw[en]
   exact acz p.2.1.toNat (by lia) _ (mem p hp _ _ h.1 (by lia))
 ·have h:=Qy k (by lia) _ (.head _)
  exact⟨h.1 _ rfl,h.2 _ rfl⟩
 ·have h:=hk p hp
  by_cases hs:p.1 = "step"
  ·rw[hs,Ao] at h
   exact⟨by lia,by lia,fun _=>by lia⟩
  ·rw[sQ hs] at h
   exact⟨by lia,by lia,fun z=>absurd z hs⟩
theorem acA {tb:Tb} {es cs:List Int} (h:meets (eB tb es) (a7 cs)) {i:Int} (hb:kB tb cs i):i∈es:=by
 obtain⟨r,hr,rfl,h2⟩:=hb
 refine Decidable.byContradiction fun z=>?_
 have h3:=Ar.mp (h _ (tq.mpr ⟨r,hr,z,rfl⟩))
 rw[show hold r.2.1 r.2.2 (a7 cs r.1.2.toNat)=false from h2] at h3
 cases h3
inductive acB (K:ak2) (vs:List V) (H:Hp) (Q:VK) (a8:XK):Prop
 | mk (c b w cl:ala) (cs es:List Int) (e t u d m f:Int) (xs:List V) (ps:List Pa) (tb:Tb) (_:vs=[.ref c,.ref b,.ref w,.ref cl]) (_:H c=some (.lst (cs.map V.int))) (_:ah K H b (gJ e t u d m f)) (_:ik e t u d m f) (_:TabAt H w tb) (_:bZ e t tb) (_:tb.length<=60) (_:ah K H cl xs) (_:bT H xs ps) (_:cs.length=t.toNat) (_:jq cs ps=true) (_:(∀ k,k+1<cs.length->-d<=a7 cs (k+1)-a7 cs k/\a7 cs (k+1)-a7 cs k<=u)) (_:(∀ p∈ps,DF cs p.1 p.2.1)) (_:(es.length:Int)<=m) (_:meets (eB tb es) (a7 cs)) (_:∀ H',ak H H'->Q (.bl true) H')
inductive uT (H:Hp) (c b w cl:ala) (_:Nat) (σ:St) (H1:Hp):Prop
 | mk (e1 e2:Option V) (_:σ=[some (.ref c),some (.ref b),some (.ref w),some (.ref cl),e1,e2]) (_:H1=H)
theorem acC (T:Tx K mg):aL P w K mg base (aM P w) 3 T.ni T.CO ["_law_found","_law_shape_here","_law_told","_law_claim_here"] (acB K):=by
 refine okN T.ur Bk (fun vs H Q E h=>?_) (fun aI A outer s H vs Q E hr h=>?_)
 ·obtain⟨c,b,w,cl,cs,es,e,t,u,d,m,f,xs,ps,tb,rfl,_⟩:=h
  rfl
 ·obtain⟨c,b,w,cl,cs,es,e,t,u,d,m,f,xs,ps,tb,rfl,hc,hb,sh,hT,hot,rA,hX,hP,bN,hmet,cM,hat,oK,kz,q⟩:=h
  refine⟨_,(aq (aN (PW.pt (cp (cL (cT (bI oy (by rfl) T.q9 ox (ae (aa 0) (ae (nY (v:=.ty "list") rfl T.nB kP rfl) ag))))) (dc (lO (bI dA (by rfl) T.dr df (ae (aa 0) ag)) (aw (aa 1) af))))) (ar (aG dJ)) aO)
  (aq (cO alU rfl (eI (aa 0)) (bo (i:=4) Bk.nd rfl (als rfl)) (ar (aN (cL (cT (aF (xH T) hr T.xy T.ko T.qY aB (ae (aa 4) ag)))) (ar (aG dJ)) aO)))
  (aq (cO alU rfl (fM rfl T.fe (ae (aE dQ (aw (aa 1) af) af) ag)) (bo (i:=5) Bk.nd rfl (als rfl)) (ar (aN (PW.pt (cp (ib (aE dQ (aw (aa 0) (aE bc (aa 5) af)) (aw (aa 0) (aa 5))) (aw (aa 1) af)) (dc (ib (aE dQ (aw (aa 0) (aa 5)) (aw (aa 0) (aE bc (aa 5) af))) (aw (aa 1) af))))) (ar (aG dJ)) aO)))
  (ar (aG (iQ (aF (abZ T) hr T.aai T.uq T.CN aB (ae (aa 0) (ae (aa 3) ag))) (i3 (gP (lN gn) (bI dA (by rfl) T.dr df (ae (aF (acv T) hr T.aah T.um T.CL aB (ae (aa 2) (ae (aa 0) ag))) ag)) (aw (aa 1) af) (dW _))))))))),?_⟩
  have t1:=sh.ht
  refine aJ (uT H c b w cl 0) (fun N hN=>?_) ?_
  ·walk_at "gzn"
   refine UG hc ?_
   walk_at "gzn"
   refine⟨_,d9 (ah.of hc),aP hb (v:=.int t) rfl ?_⟩
   rw[ak8,bN]
   walk_at "gzn"
   rw[if_neg (fun z=>z (by lia))]
   exact hN _ _ ⟨_,_,rfl,rfl⟩
  rintro σ H1 ⟨e1,e2,rfl,rfl⟩
  refine aJ (uT H1 c b w cl 0) (fun N hN=>?_) ?_
  ·walk_at "gzn"
   refine⟨⟨_,ah.of hc⟩,jc (xs:=cs.map V.int) (uT H1 c b w cl) ⟨_,_,rfl,rfl⟩ ?_ ?_ (fun σ H2 ⟨e1,e2,h1,h2⟩=>hN _ _ ⟨e1,e2,h1,h2⟩)⟩
   ·rintro i σ H2 _ ⟨_,_,_,rfl⟩
    exact ah.of hc
   ·rintro i x σ H2 hx ⟨e1,e2,rfl,rfl⟩
    rw[alz] at hx
    obtain⟨n,_,rfl⟩:=alR.mp hx
    walk_at "gzn"
    refine⟨_,rfl,.inr ⟨_,rfl⟩,?_⟩
    simp only[isWhole]
    walk_at "gzn"
    exact⟨_,_,rfl,rfl⟩
  rintro σ H2 ⟨e1,e2,rfl,rfl⟩
  refine aJ (uT H2 c b w cl 0) (fun N hN=>?_) ?_
  ·walk_at "gzn"
   refine aP hb (v:=.int t) rfl ?_
   walk_at "gzn"
   refine⟨by lia,by lia,kR (uT H2 c b w cl) ⟨_,_,rfl,rfl⟩ ?_ (fun σ H3 ⟨e1,e2,h1,h2⟩=>hN _ _ ⟨e1,e2,h1,h2⟩)⟩
   rintro i σ H3 hi ⟨e1,e2,rfl,rfl⟩
   walk_at "gzn"
   rw[show (0:Int)+(i:Int)=((i:Nat):Int) by lia]
   have hs:=cM i (by lia)
   unfold a7 at hs
   refine aP (ah.of hc) (int_at (by lia) (by lia)) (aP (ah.of hc) (int_at (by lia) (by lia)) ?_)
   walk_at "gzn"
   refine aP hb (v:=.int u) rfl ?_
   walk_at "gzn"
   rw[show ((i:Int)+1).toNat=i+1 by lia,al1,if_neg (by lia)]
   refine aP (ah.of hc) (int_at (by lia) (by lia)) (aP (ah.of hc) (int_at (by lia) (by lia)) ?_)
   walk_at "gzn"
   refine aP hb (v:=.int d) rfl ?_
   walk_at "gzn"
   rw[show ((i:Int)+1).toNat=i+1 by lia,al1,if_neg (by lia)]
   exact⟨_,_,rfl,rfl⟩
  rintro σ H3 ⟨e1,e2,rfl,rfl⟩
  walk_at "gzn"
  refine⟨c,cl,cs,xs,ps,rfl,ah.of hc,hX,hP,hat,?_⟩
  rw[hmet]
  walk_at "gzn"
  refine⟨w,c,e,t,tb,cs,rfl,hT,hot,rA,ah.of hc,bN,fun l bs H4 s4 _ hl nd hbs _=>⟨_,d9 (ah.of hl),aP (s4.seq hb) (v:=.int m) rfl ?_⟩⟩
  walk_at "gzn"
  have:=Dx nd fun i hi=>acA kz ((hbs i).mp hi)
  rw[ak8,decide_eq_true (by lia)]
  exact q _ s4
end
section
seal L2.PE L2.PS L2.bw L2.PA
variable {P:alr} {w:alS} {K:ak2} {mg:Str->Option ak3} {base:amH}
theorem acD (T:Tx K mg):aL P w K mg base (aM P w) 23 T.jE T.ux ["_law_paper","_law_told","_law_known","_law_aside"] (xX K 10):=ace T 10
theorem Qz {gs:List S2} {tb br:Tb} (h:∀ r∈tb,r∈br) {as:List Int} {s:En × Nat} {m:Mk} (x:hV gs tb as s m):hV gs br as s m:=by
 obtain⟨o,k⟩:=s
 cases o with
 | none=>exact x
 | some e=>exact⟨x.1,x.2.1,h _ x.2.2⟩
theorem DN {ps:List P2} {gs:List S2} {tb br:Tb} {mo:Int} (h:∀ r∈tb,r∈br):∀ {t:Pp} {as:List Int},Val ps gs tb mo t as->Val ps gs br mo t as
 | .nil,_,x=>x.elim
 | .full,_,x=>x
 | .cls c a b,as,⟨⟨m,n,x1,x2,x3⟩,y,z⟩=>by
  refine⟨⟨m,n,Qz h x1,Qz h x2,x3⟩,?_,?_⟩
  ·cases hc:c.1.1 with
   | none=>rw[hc] at y;exact y
   | some e=>rw[hc] at y;exact DN h y
  ·cases hc:c.2.1 with
   | none=>rw[hc] at z;exact z
   | some e =>
    rw[hc] at z
    replace z:if c.1.1=some e then b = .nil else Val ps gs tb mo b (as++[e]):=z
    show if c.1.1=some e then b = .nil else Val ps gs br mo b (as++[e])
    by_cases he:c.1.1=some e
    ·rw[if_pos he] at z ⊢;exact z
    ·rw[if_neg he] at z ⊢;exact DN h z
inductive QA (K:ak2) (vs:List V) (H:Hp) (Q:VK) (a8:XK):Prop
 | mk (G:Hp) (v:V) (b w cl:ala) (e t u d m f:Int) (xs:List V) (ps:List Pa) (tb rs:Tb) (_:vs=[v,.ref b,.ref w,.ref cl]) (_:ig G H v (cV u d ps (t-1).toNat) (cJ ps t.toNat) rs m) (_:rs.Perm tb) (_:ah K H b (gJ e t u d m f)) (_:ik e t u d m f) (_:TabAt H w tb) (_:bZ e t tb) (_:tb.length<=60) (_:ah K H cl xs) (_:bT H xs ps) (_:ps.length<=900) (_:eO t ps) (_:∀ H',ak H H'->Q (.bl true) H')
theorem uU (T:Tx K mg):aL P w K mg base (aM P w) 24 T.nu T.C0 ["_law_answer","_law_shape_here","_law_told","_law_claim_here"] (QA K):=by
 refine okN T.jF OQ (fun vs H Q E h=>?_) (fun aI A outer s H vs Q E hr h=>?_)
 ·obtain⟨G,v,b,w,cl,e,t,u,d,m,f,xs,ps,tb,rs,rfl,_⟩:=h
  rfl
 ·obtain⟨G,v,b,w,cl,e,t,u,d,m,f,xs,ps,tb,rs,rfl,hA,cj,hb,sh,hT,hot,rA,hX,hP,hn,hk,q⟩:=h
  refine⟨_,(aq (aN (PW.pt (cp (cL (cT (bI oy (by rfl) T.q9 ox (ae (aa 0) (ae (nY (v:=.ty "tuple") rfl T.C8 zr rfl) ag))))) (dc (lO (bI dA (by rfl) T.dr df (ae (aa 0) ag)) af)))) (ar (aG dJ)) aO)
  (aq (aN (b8 (aw (aa 0) af) bH) (ar (aG (aF (acC T) hr T.aaj T.ur T.CP aB (ae (aw (aa 0) af) (ae (aa 1) (ae (aa 2) (ae (aa 3) ag))))))) aO)
  (aq (aD (i:=4) OQ.nd rfl (als rfl) (bg (ae (aF (ab1 T) hr T.aaf T.uj T.CH aB (ae (aa 1) (ae (aa 3) ag))) (ae (aF (ab3 T) hr T.aag T.uk T.CJ aB (ae (aa 1) (ae (aa 3) ag))) (ae (aw (aa 1) af) ag)))))
  (ar (aG (iQ (gP rW (aw (aa 0) af) bH (dW _)) (i3 (aF (acD T) hr T.CZ T.kr T.uy aB (ae (aw (aa 0) af) (ae (aa 2) (ae (aa 4) (ae (cF ag) ag)))))))))))),?_⟩
  have t1:=sh.ht
  have wl:(cV u d ps (t-1).toNat).length=(t-1).toNat:=by unfold cV;rw[ak8,alN]
  have gw:(cJ ps t.toNat).length=t.toNat:=by unfold cJ;rw[ak8,alN]
  have uF:∃ (r:ala) (y:V) (wd:Str),v = .ref r/\H r=some (.tup [.str wd,y])/\((wd = "never" /\ uL H y (cV u d ps (t-1).toNat) (cJ ps t.toNat) tb m [] 10)∨wd = "may"):=by
   rcases hA with ⟨r,k,j,rfl,h1,h2,h3⟩|⟨r,k,j,rfl,h1,h2,h3⟩|⟨r,k,tt,pp,gs,rfl,h1,h2,h3,h4,h5,h6⟩|⟨r,k,cs,pp,gs,es,rfl,h1,_⟩
   ·exact⟨r,_,_,rfl,h1,.inl ⟨rfl,.ky k j rfl h2 h3⟩⟩
   ·exact⟨r,_,_,rfl,h1,.inl ⟨rfl,.gol k j rfl h2 h3⟩⟩
   ·exact⟨r,_,_,rfl,h1,.inl ⟨rfl,.pap tt pp gs h2 (by lia) h4 h5 (DN (fun _ hr=>cj.mem_iff.mp hr) h6)⟩⟩
   ·exact⟨r,_,_,rfl,h1,.inr rfl⟩
  obtain⟨r,y,wd,rfl,hv,hw⟩:=uF
  refine aJ (fun σ H1=>σ=[some (.ref r),some (.ref b),some (.ref w),some (.ref cl),none]/\H1=H) (fun N hN=>?_) ?_
  ·walk_at "gzn"
   refine zu hv ?_
   walk_at "gzn"
   refine⟨_,kQ (aj.of hv),?_⟩
   refine bb (fun zz=>absurd rfl zz) fun _=>?_
   exact hN _ _ ⟨rfl,rfl⟩
  rintro σ H1 ⟨rfl,rfl⟩
  rcases hw with ⟨rfl,hR⟩|rfl
  ·refine aJ (fun σ H2=>σ=[some (.ref r),some (.ref b),some (.ref w),some (.ref cl),none]/\H2=H1) (fun N hN=>?_) ?_
   ·walk_at "gzn"
    refine aA (aj.of hv) (v:=.str "never") rfl ?_
    walk_at "gzn"
    rw[if_neg (by decide)]
    exact hN _ _ ⟨rfl,rfl⟩
   rintro σ H2 ⟨rfl,rfl⟩
   refine aJ (fun σ H3=>∃ kn,σ=[some (.ref r),some (.ref b),some (.ref w),some (.ref cl),some (.ref kn)]/\ak H2 H3/\rC H3 w kn (cV u d ps (t-1).toNat) (cJ ps t.toNat) tb m) (fun N hN=>?_) ?_
   ·walk_at "gzn"
    refine⟨b,cl,e,t,u,d,m,f,xs,ps,rfl,hb,sh,hX,hP,hn,fun l ys H3 s3 _ hl hW=>?_⟩
    refine⟨b,cl,e,t,u,d,m,f,xs,ps,rfl,s3.seq hb,sh,s3.seq hX,hP.same s3,hn,fun gl zs H4 s4 _ iW hG=>?_⟩
    have S4:=s3.trans s4
    refine aP (S4.seq hb) (v:=.int m) rfl ⟨by decide,fun kn xY=>?_⟩
    have u1:=ax (o:=.tup [.ref l,.ref gl,.int m]) xY
    refine hN _ _ ⟨kn,rfl,S4.trans u1,l,gl,ys,zs,au,(s4.trans u1) _ _ hl,hW.imp fun _ _ r=>cy.same r (s4.trans u1),u1 _ _ iW,hG.imp fun _ _ r=>cy.same r u1,by lia,by lia,hT.same (S4.trans u1),hot.1,fun r hr=>?_⟩
    have ho:=hot.2 r hr
    unfold jo at ho
    lia
   rintro σ H3 ⟨kn,rfl,s3,hK⟩
   walk_at "gzn"
   refine aA (aj.of (s3 _ _ hv)) (v:=.str "never") rfl ?_
   walk_at "gzn"
   refine⟨rfl,aA (aj.of (s3 _ _ hv)) (v:=y) rfl ⟨alv _,fun z hz=>?_⟩⟩
   have u1:=ax (o:=.lst []) hz
   have U:=s3.trans u1
   exact⟨y,w,kn,z,m,_,_,tb,[],rfl,by decide,by decide,hK.same u1,au,by decide,hR.same U,fun H' s'=>q _ (U.trans s')⟩
  ·refine aJ (fun _ _=>False) (fun N hN=>?_) (fun _ _ h=>h.elim)
   walk_at "gzn"
   refine aA (aj.of hv) (v:=.str "may") rfl ?_
   walk_at "gzn"
   rcases hA with ⟨r',k,j,e1,h1,h2,h3⟩|⟨r',k,j,e1,h1,h2,h3⟩|⟨r',k,tt,pp,gs,e1,h1,h2,h3,h4,h5,h6⟩|⟨r',k,cs,pp,gs,es,e1,h1,h2,_,h3,es1,eg,dI,kz,oK,jI⟩
   ·cases e1;rw[hv] at h1;simp at h1;exact absurd h1.1 (by decide)
   ·cases e1;rw[hv] at h1;simp at h1;exact absurd h1.1 (by decide)
   ·cases e1;rw[hv] at h1;simp at h1;exact absurd h1.1 (by decide)
   ·cases e1
    cases hv.symm.trans h1
    obtain⟨a1,a2,a3⟩:=acy t1.1 (h3.trans gw) hk es1 eg dI kz
    exact aA (aj.of hv) (v:=.ref k) rfl ⟨k,b,w,cl,cs,es,e,t,u,d,m,f,xs,ps,tb,rfl,h2,hb,sh,hT,hot,rA,hX,hP,h3.trans gw,a1,a2,a3,oK,fun mm hm=>jI mm (by obtain⟨r1,dG,z1,rfl⟩:=tq.mp hm;exact tq.mpr ⟨r1,cj.mem_iff.mpr dG,z1,rfl⟩),q⟩
end
section
seal L2.PE L2.PS L2.bw L2.PA
variable {P:alr} {w:alS} {K:ak2} {mg:Str->Option ak3} {base:amH}
inductive Kp (h:ala) (H:Hp) (v kv:V):Prop
 | lst (r k k2:ala) (cs:List Int) (_:v = .ref r) (_:H r=some (.tup [.str "may",.ref k])) (_:kv = .ref k2) (_:H k=some (.lst (cs.map V.int))) (_:H k2=some (.lst (cs.map V.int))) (_:k≠h) (_:k2≠h)
 | two (r k:ala) (w:Str) (j:Int) (_:apA w=true) (_:v = .ref r) (_:H r=some (.tup [.str "never",.ref k])) (_:kv = .ref k) (_:H k=some (.tup [.str w,.int j]))
 | pap (r:ala) (t:Pp) (_:v = .ref r) (_:H r=some (.tup [.str "never",kv])) (_:dt H kv t) (_:bA t<=9)
theorem dt.tup {H H':Hp} (s:∀ a xs,H a=some (.tup xs)->H' a=some (.tup xs)):∀ {t:Pp} {v:V},dt H v t->dt H' v t
 | .nil,_,h=>h
 | .full,_,⟨r,e,h⟩=>⟨r,e,s _ _ h⟩
 | .cls _ _ _,_,⟨r,p,q,x,y,e,h1,h2,h3,h4,h5⟩=>⟨r,p,q,x,y,e,s _ _ h1,s _ _ h2,s _ _ h3,dt.tup s h4,dt.tup s h5⟩
theorem Kp.go {h:ala} {H H':Hp} {v kv:V} (x:Kp h H v kv) (s:∀ a xs,H a=some (.tup xs)->H' a=some (.tup xs)) (l:∀ a xs,a≠h->H a=some (.lst xs)->H' a=some (.lst xs)):Kp h H' v kv:=by
 rcases x with ⟨r,k,k2,cs,e1,h1,e2,h2,h3,n1,n2⟩|⟨r,k,w,j,ok,e1,h1,e2,h2⟩|⟨r,t,e1,h1,h2,h3⟩
 ·exact .lst r k k2 cs e1 (s _ _ h1) e2 (l _ _ n1 h2) (l _ _ n2 h3) n1 n2
 ·exact .two r k w j ok e1 (s _ _ h1) e2 (s _ _ h2)
 ·exact .pap r t e1 (s _ _ h1) (h2.tup s) h3
theorem Kp.same {h:ala} {H H':Hp} {v kv:V} (x:Kp h H v kv) (s:ak H H'):Kp h H' v kv:=x.go (fun _ _ e=>s _ _ e) fun _ _ _ e=>s _ _ e
inductive acE (K:ak2) (vs:List V) (H:Hp) (Q:VK) (a8:XK):Prop
 | mk (G:Hp) (v:V) (h:ala) (xs:List V) (sw gw:List W2) (tb:Tb) (m:Int) (_:vs=[v]) (_:ig G H v sw gw tb m) (_:gw.length<=100) (_:G h=some (.lst xs)) (_:H h=some (.lst xs)) (_:∀ kv H',ak H H'->Kp h H' v kv->Q kv H')
theorem acF (T:Tx K mg):aL P w K mg base (aM P w) 1 T.nA T.C5 ["_law_answer"] (acE K):=by
 refine okN T.uC ZW (fun vs H Q E h=>?_) (fun aI A outer s H vs Q E hr h=>?_)
 ·obtain⟨G,v,h,xs,sw,gw,tb,m,rfl,_⟩:=h
  rfl
 ·obtain⟨G,v,h,xs,sw,gw,tb,m,rfl,hA,ak0,hG,hH,q⟩:=h
  refine⟨_,(aq (aN (b8 (aw (aa 0) af) bH) (ar (aG (r6 za (by rfl) T.nB kP (ae (aw (aa 0) af) ag)))) aO)
  (ar (aG (aw (aa 0) af)))),?_⟩
  rcases hA with ⟨r,k,j,rfl,h1,h2,h3⟩|⟨r,k,j,rfl,h1,h2,h3⟩|⟨r,k,tt,pp,gs,rfl,h1,h2,h3,h4,h5,h6⟩|⟨r,k,cs,pp,gs,es,rfl,h1,h2,fk,h3,_⟩
  ·walk_at "gzn"
   refine aA (aj.of h1) (v:=.str "never") rfl ?_
   walk_at "gzn"
   rw[if_neg (by decide)]
   exact aA (aj.of h1) (v:=.ref k) rfl (q _ _ (ak.refl _) (.two r k "step" j (by decide +kernel) rfl h1 rfl h2))
  ·walk_at "gzn"
   refine aA (aj.of h1) (v:=.str "never") rfl ?_
   walk_at "gzn"
   rw[if_neg (by decide)]
   exact aA (aj.of h1) (v:=.ref k) rfl (q _ _ (ak.refl _) (.two r k "at" j (by decide +kernel) rfl h1 rfl h2))
  ·walk_at "gzn"
   refine aA (aj.of h1) (v:=.str "never") rfl ?_
   walk_at "gzn"
   rw[if_neg (by decide)]
   exact aA (aj.of h1) (v:=k) rfl (q _ _ (ak.refl _) (.pap r tt rfl h1 h2 h3))
  ·walk_at "gzn"
   refine aA (aj.of h1) (v:=.str "may") rfl ?_
   walk_at "gzn"
   refine aA (aj.of h1) (v:=.ref k) rfl ?_
   walk_at "gzn"
   refine⟨_,.inl (ah.of h2),fun k2 dk=>?_⟩
   have u1:=ax (o:=.lst (cs.map V.int)) dk
   exact q _ _ u1 (.lst r k k2 cs rfl (u1 _ _ h1) rfl (u1 _ _ h2) au (fun z=>by rw[z,hG] at fk;cases fk) (fun z=>by rw[z,hH] at dk;cases dk))
end
section
seal L2.PE L2.PS L2.bw L2.PA
variable {P:alr} {w:alS} {K:ak2} {mg:Str->Option ak3} {base:amH}
inductive acG (K:ak2) (B:ala) (vs:List V) (H:Hp) (Q:VK) (a8:XK):Prop
 | mk (a b c w x p:ala) (ns cs:List Int) (e t u d m f:Int) (tb rs:Tb) (_:vs=[.ref a,.ref b,.ref c,.ref w,.ref x]) (_:ah K H a (ns.map V.int)) (_:fu ns) (_:ah K H b (gJ e t u d m f)) (_:ik e t u d m f) (_:ah K H c (cs.map V.int)) (_:cs.length=t.toNat) (_:TabAt H w tb) (_:eS B H x e t u d m p rs) (_:w≠p) (_:rs.Perm tb) (_:bZ e t tb) (_:tb.length<=60) (_:(∀ r∈tb,aY r.2.1 r.2.2=false)) (_:∀ (br da:Tb) (H':Hp),j4 [w,p] H H'->TabAt H' w br->eS B H' x e t u d m p da->da.Perm br->bZ e t br->br.length<=tb.length+1->(∀ r∈br,aY r.2.1 r.2.2=false)->Q .non H')
theorem acH (T:Tx K mg):aL P w K mg base (aM P w) 4 T.nz T.C3 ["_law_script","_law_shape_here","_law_course_here","_law_told","_law_board_here"] (acG K T.aQ):=by
 refine okN T.uB OS (fun vs H Q E h=>?_) (fun aI A outer s H vs Q E hr h=>?_)
 ·obtain⟨a,b,c,w,x,p,ns,cs,e,t,u,d,m,f,tb,rs,rfl,_⟩:=h
  rfl
 ·obtain⟨a,b,c,w,x,p,ns,cs,e,t,u,d,m,f,tb,rs,rfl,hS,hn,hb,sh,hc,bN,hT,hB,wp,cj,ao,rA,dI,q⟩:=h
  refine⟨_,(aq (aD (i:=5) OS.nd rfl (als rfl) (bg (ae (aF (cb T) hr T.b9 T.bO T.bX aB (ae (aa 0) (ae af (ae (aw (aa 1) af) ag)))) (ae (aF (cb T) hr T.b9 T.bO T.bX aB (ae (aa 0) (ae af (ae (aw (aa 1) af) ag)))) ag))))
  (ar (aN (PW.pt (dv (rO (Um (cQ hr) (aa 5) (aa 3))) (dU (ib (aF (cb T) hr T.b9 T.bO T.bX aB (ae (aa 0) (ae af (ae af ag)))) af)))) (aq (dw (iy (aa 4) T.bP T.aay (aaT T) (hr.mono (by decide)) T.Ce .nil aB (ae (aw (aa 5) af) (ae (aw (aa 5) af) ag))))
    (ar (dw (MU (cQ hr) (aa 3) (aa 5) ⟨rfl,rfl,rfl,rfl⟩)))) (aq (zo (cQ hr) (aa 3) (aa 5) (aF (DD T) hr T.Cu T.mW T.uf aB (ae (aa 0) (ae af (ae (aw (aa 1) af) (ae (aw (aa 2) (aw (aa 5) af)) (ae dJ ag)))))) rfl)
    (ar (dw (iy (aa 4) T.bP T.Pb (Pe T) (hr.mono (by decide)) T.xn .nil aB (ae (aw (aa 5) af) (ae (aw (aa 5) af) (ae (aw (kO (cQ hr) (aa 3) (aa 5) (fun _ _=>rfl)) af) (ae (aw (kO (cQ hr) (aa 3) (aa 5) (fun _ _=>rfl)) af) ag))))))))))),?_⟩
  obtain⟨he,ht,-,-,-,hf⟩:=id sh
  refine aJ (fun σ H1=>∃ (z:ala) (i j:Nat),σ=[some (.ref a),some (.ref b),some (.ref c),some (.ref w),some (.ref x),some (.ref z)]/\ak H H1/\H1 z=some (.tup [.int i,.int j])/\(i:Int)<e/\(j:Int)<t) (fun N hN=>?_) ?_
  ·walk_at "gzn"
   refine aP hb (v:=.int e) rfl ?_
   refine⟨a,ns,_,_,rfl,hS,hn,by lia,by lia,fun p1 p11 p12=>?_⟩
   refine aP hb (v:=.int t) rfl ?_
   refine⟨a,ns,_,_,rfl,hS,hn,by lia,by lia,fun p2 p21 p22=>?_⟩
   refine⟨bq,fun z hz=>hN _ _ ⟨z,p1.toNat,p2.toNat,rfl,ax hz,?_,by lia,by lia⟩⟩
   rw[au,show ((p1.toNat:Nat):Int)=p1 by lia,show ((p2.toNat:Nat):Int)=p2 by lia]
  rintro σ H1 ⟨z,i,j,rfl,s1,hz,hi,hj⟩
  have T1:=hT.same s1
  have B1:=hB.same s1
  obtain⟨kw,hkw,x5⟩:=id T1
  obtain⟨⟨dx,hx⟩,kp,nR,x6⟩:=id B1
  have uS:(rs.map (·.1)).Nodup:=(cj.map _).nodup_iff.mpr ao.1
  have uQ:bZ e t rs:=⟨uS,fun r hr=>ao.2 r (cj.mem_iff.mp hr)⟩
  have wl:=x5.len
  have pl:=x6.len
  have rl:=cj.length_eq
  have xZ:jo e t ((i:Int),(j:Int)):=⟨⟨by show (0:Int)<=(i:Int);lia,hi⟩,by show (0:Int)<=(j:Int);lia,hj⟩
  have zw:z≠w:=fun h=>by rw[h,hkw] at hz;cases hz
  have zp:z≠p:=fun h=>by rw[h,nR] at hz;cases hz
  have xw:x≠w:=fun h=>by rw[h,hkw] at hx;cases hx
  have xp:x≠p:=fun h=>by rw[h,nR] at hx;cases hx
  have PUT:∀ (R:V->Hp->Prop),R=(fun _ H'=>Q .non H')->∀ (v:V) (wq:ala) (lo hi:En) (H7:Hp),v = .ref wq->ak H1 H7->H7 wq=some (.tup [ev lo,ev hi])->aY lo hi=false->∃ nT,jb H7 w (.ref z) v nT/\∃ DO uV,nT x=some (HO.ins T.aQ DO uV)/\anY (anf "tell") uV=none/\d0 K (.ref z) (.int 0) nT fun DQ H1=>d0 K (.ref z) (.int 1) H1 fun DR H1=>∃ uW,cu H1 w (.ref z) (some uW)/\d0 K uW (.int 0) H1 fun DS H1=>∃ uX,cu H1 w (.ref z) (some uX)/\d0 K uX (.int 1) H1 fun DT H1=>Di T.aQ T.eE [.ref x,DQ,DR,DS,DT] H1 R E0:=by
   rintro R rfl v wq lo hi H7 rfl s7 uY rD
   have DU:=s7 _ _ hkw
   have F8:Fr H7 (upd H7 w (.dT (putK kw (aZ (i:Int) (j:Int)) (.ref wq)))):=Am DU
   have z8:upd H7 w (.dT (putK kw (aZ (i:Int) (j:Int)) (.ref wq))) z=some (.tup [.int (i:Int),.int (j:Int)]):=by rw[aH zw];exact s7 _ _ hz
   have wqw:wq≠w:=fun h=>by rw[h,DU] at uY;cases uY
   have x8:upd H7 w (.dT (putK kw (aZ (i:Int) (j:Int)) (.ref wq))) wq=some (.tup [ev lo,ev hi]):=by rw[aH wqw];exact uY
   have w8:upd H7 w (.dT (putK kw (aZ (i:Int) (j:Int)) (.ref wq))) w=some (.dT (putK kw (aZ (i:Int) (j:Int)) (.ref wq))):=au
   have x9:upd H7 w (.dT (putK kw (aZ (i:Int) (j:Int)) (.ref wq))) x=some (.ins T.aQ dx (xI e t u d m p)):=by rw[aH xw];exact s7 _ _ hx
   have DV:upd H7 w (.dT (putK kw (aZ (i:Int) (j:Int)) (.ref wq))) p=some (.dT kp):=by rw[aH (al5 wp)];exact s7 _ _ nR
   have TW:a9 (upd H7 w (.dT (putK kw (aZ (i:Int) (j:Int)) (.ref wq)))) (putK kw (aZ (i:Int) (j:Int)) (.ref wq)) (dm tb ((i:Int),(j:Int)) (lo,hi)):=a9.put (s:=((i:Int),(j:Int))) (w:=(lo,hi)) (x5.imp fun _ _ _ zz=>(aV.same zz s7).fr F8) ⟨wq,rfl,x8⟩
   have QC:a9 (upd H7 w (.dT (putK kw (aZ (i:Int) (j:Int)) (.ref wq)))) kp rs:=x6.imp fun _ _ _ zz=>(aV.same zz s7).fr F8
   have vv:bF (putK kw (aZ (i:Int) (j:Int)) (.ref wq)) (aZ (i:Int) (j:Int))=some (.ref wq):=by rw[Uc,if_pos rfl]
   have BU:j4 [w,p] H (upd H7 w (.dT (putK kw (aZ (i:Int) (j:Int)) (.ref wq)))):=fun b o hb h=>by
    have gF:b≠w/\b≠p:=by simpa using hb
    rw[aH gF.1];exact s7 _ _ (s1 _ _ h)
   refine⟨_,jb.t (k:=aZ (i:Int) (j:Int)) DU (s7 _ _ hz) (al9 (by lia:kw.length<=60) (by decide)),_,_,x9,rfl,aA (aj.of z8) rfl (aA (aj.of z8) rfl ⟨.ref wq,by rw[<- vv];exact cu.t (k:=aZ (i:Int) (j:Int)) w8 z8,aA (aj.of x8) rfl ⟨.ref wq,by rw[<- vv];exact cu.t (k:=aZ (i:Int) (j:Int)) w8 z8,aA (aj.of x8) rfl ?_⟩⟩)⟩
   generalize upd H7 w (.dT (putK kw (aZ (i:Int) (j:Int)) (.ref wq)))=H8 at z8 x8 w8 x9 DV TW QC BU
   refine⟨x,p,e,t,u,d,m,(i:Int),(j:Int),lo,hi,kp,rfl,⟨⟨dx,x9⟩,DV⟩,by lia,fun zz=>absurd ⟨xZ,rD⟩ zz,fun _ v9 H9 sb DL DM=>?_⟩
   have F9:Fr H8 H9:=SameBut.fr sb DV
   refine q (dm tb ((i:Int),(j:Int)) (lo,hi)) (dm rs ((i:Int),(j:Int)) (lo,hi)) H9 (fun b o hb h=>?_) ⟨_,sb w _ wp w8,TW.imp fun _ _ _ zz=>zz.fr F9⟩ ⟨⟨dx,sb x _ xp x9⟩,_,DL,a9.put (s:=((i:Int),(j:Int))) (w:=(lo,hi)) (QC.imp fun _ _ _ zz=>zz.fr F9) DM⟩ (Xf cj) (ao.put xZ) (M4 _ _ _) fun r hr=>?_
   ·have gF:b≠w/\b≠p:=by simpa using hb
    exact sb b o gF.2 (BU b o hb h)
   ·rcases Xh hr with zz|zz
    ·exact dI r zz
    ·rw[zz];exact rD
  have PW:d0 K (V.ref b) (V.int 5) H1 fun uM H1=>d0 K (V.ref z) (V.int 1) H1 fun y H2=>d0 K (V.ref c) y H2 fun uN H1=>P7 K [V.ref a,V.int 230,uM,uN,V.bl true] H1 (fun v H1=>∃ nT,jb H1 w (V.ref z) v nT/\∃ DO uV,nT x=some (HO.ins T.aQ DO uV)/\anY (anf "tell") uV=none/\d0 K (V.ref z) (V.int 0) nT fun DQ H1=>d0 K (V.ref z) (V.int 1) H1 fun DR H1=>∃ uW,cu H1 w (V.ref z) (some uW)/\d0 K uW (V.int 0) H1 fun DS H1=>∃ uX,cu H1 w (V.ref z) (some uX)/\d0 K uX (V.int 1) H1 fun DT H1=>Di T.aQ T.eE [V.ref x,DQ,DR,DS,DT] H1 (fun x H1=>Q V.non H1) E0) E0:=by
   refine aP (s1.seq hb) (v:=.int f) rfl (aA (aj.of hz) rfl (aP (s1.seq hc) (dC (ND (by lia))) ?_))
   exact⟨a,ns,_,_,_,_,rfl,s1.seq hS,hn,by lia,hf,fun wq lo hi H7 s7 _ uY rD _=>PUT _ rfl _ wq lo hi H7 rfl s7 uY rD⟩
  walk_at "gzn"
  refine⟨_,cu.t (k:=aZ (i:Int) (j:Int)) hkw hz,bb (fun h1=>?_) fun h1=>?_⟩
  ·refine⟨a,ns,_,_,rfl,s1.seq hS,hn,by lia,by lia,fun p3 p31 p32=>?_⟩
   refine bb (fun h2=>?_) fun h2=>?_
   ·obtain⟨v1,lF⟩:=amS.mp h1
    have vt:∃ w1,eN tb ((i:Int),(j:Int))=some w1:=by
     cases hh:eN tb ((i:Int),(j:Int)) with
     | none=>rw[(x5.val ((i:Int),(j:Int))).1 hh] at lF;cases lF
     | some w1=>exact⟨w1,rfl⟩
    obtain⟨w1,hw1⟩:=vt
    have nQ:(((i:Int),(j:Int)),w1)∈rs:=cj.mem_iff.mpr (Wo hw1)
    obtain⟨v2,sZ,_⟩:=(x6.val ((i:Int),(j:Int))).2 _ (oP uS nQ)
    refine⟨_,_,hx,rfl,aA (aj.of hz) rfl (aA (aj.of hz) rfl ⟨x,p,e,t,u,d,m,(i:Int),(j:Int),kp,rfl,⟨⟨dx,hx⟩,nR⟩,fun zz=>absurd (sZ.symm.trans zz) (fun h=>nomatch h),fun v' _ H2 sb d8=>?_⟩)⟩
    have F2:Fr H1 H2:=SameBut.fr sb nR
    have nH:=sb w _ wp hkw
    refine⟨.inr ⟨kw,.inl nH⟩,kw,nH,aZ (i:Int) (j:Int),sb z _ zp hz,v1,lF,?_⟩
    have F3:Fr H2 (upd H2 w (.dT (ja kw (aZ (i:Int) (j:Int))))):=Am nH
    refine q (lq tb ((i:Int),(j:Int))) (lq rs ((i:Int),(j:Int))) _ (fun b o hb h=>?_) ⟨_,au,a9.drop (s:=((i:Int),(j:Int))) ((x5.imp fun _ _ _ zz=>zz.fr F2).imp fun _ _ _ zz=>zz.fr F3)⟩ ⟨⟨dx,by rw[aH xw];exact sb x _ xp hx⟩,_,by rw[aH (al5 wp)];exact d8,a9.drop (s:=((i:Int),(j:Int))) ((x6.imp fun _ _ _ zz=>zz.fr F2).imp fun _ _ _ zz=>zz.fr F3)⟩ (Xg cj) ao.drop (arO (al8 _ _)) fun r hr=>dI r (ama.mp hr).1
    have gF:b≠w/\b≠p:=by simpa using hb
    rw[aH gF.1]
    exact sb b o gF.2 (s1 _ _ h)
   ·exact PW
  ·exact PW
end
section
seal L2.PE L2.PS L2.bw L2.PA
variable {P:alr} {w:alS} {K:ak2} {mg:Str->Option ak3} {base:amH}
inductive acI (K:ak2) (vs:List V) (H:Hp) (Q:VK) (a8:XK):Prop
 | mk (a b c:ala) (ns cs:List Int) (e t u d m f:Int) (_:vs=[.ref a,.ref b,.ref c]) (_:ah K H a (ns.map V.int)) (_:fu ns) (_:ah K H b (gJ e t u d m f)) (_:ik e t u d m f) (_:ah K H c (cs.map V.int)) (_:cs.length=t.toNat) (_:∀ (l:ala) (xs:List V) (ps:List Pa) (H':Hp),ak H H'->H l=none->H' l=some (.lst xs)->bT H' xs ps->eO t ps->ps.length<=64->Q (.ref l) H')
inductive DW (H:Hp) (a b c l:ala) (t:Int) (n:Nat) (i:Nat) (σ:St) (H1:Hp):Prop
 | mk (xs:List V) (ps:List Pa) (e1 e2 e3 e4 e5 e6:Option V) (_:σ=[some (.ref a),some (.ref b),some (.ref c),some (.ref l),e1,e2,e3,e4,e5,e6]) (_:ak H H1) (_:H1 l=some (.lst xs)) (_:bT H1 xs ps) (_:eO t ps) (_:ps.length=i)
theorem acJ (T:Tx K mg):aL P w K mg base (aM P w) 3 T.mZ T.CA ["_law_script","_law_shape_here","_law_course_here"] (acI K):=by
 refine okN T.ui iT (fun vs H Q E h=>?_) (fun aI A outer s H vs Q E hr h=>?_)
 ·obtain⟨a,b,c,ns,cs,e,t,u,d,m,f,rfl,_⟩:=h
  rfl
 ·obtain⟨a,b,c,ns,cs,e,t,u,d,m,f,rfl,hS,hn,hb,sh,hc,bN,q⟩:=h
  refine⟨_,(aq (aD (i:=3) iT.nd rfl (als rfl) (cF ag))
  (aq (cO alU rfl (fM rfl T.fe (ae (aF (cb T) hr T.b9 T.bO T.bX aB (ae (aa 0) (ae af (ae af ag)))) ag)) (bo (i:=4) iT.nd rfl (als rfl)) (aq (aD (i:=5) iT.nd rfl (als rfl) (aE bc af (aE ia af (aa 4))))
    (aq (aD (i:=6) iT.nd rfl (als rfl) (aF (cb T) hr T.b9 T.bO T.bX aB (ae (aa 0) (ae (aa 5) (ae (aw (aa 1) af) ag)))))
    (aq (aD (i:=7) iT.nd rfl (als rfl) bH)
    (aq (aD (i:=8) iT.nd rfl (als rfl) (aw (aa 2) (aa 6)))
    (aq (aN (PW.pt (dv (ki (aE bc (aa 6) af) (aw (aa 1) af)) (dU (b8 (aF (cb T) hr T.b9 T.bO T.bX aB (ae (aa 0) (ae (aE bc (aa 5) af) (ae af ag)))) af)))) (aq (aD (i:=7) iT.nd rfl (als rfl) bH)
      (ar (aD (i:=8) iT.nd rfl (als rfl) (aE dQ (aw (aa 2) (aE bc (aa 6) af)) (aa 8))))) aO)
    (aq (aD (i:=9) iT.nd rfl (als rfl) (gP rW (aF (cb T) hr T.b9 T.bO T.bX aB (ae (aa 0) (ae (aE bc (aa 5) af) (ae af ag)))) af (dW _)))
    (ar (dw (i9 al0 amv amw kM (aa 3) (ae (bg (ae (aa 7) (ae (aa 6) (ae (aF (DD T) hr T.Cu T.mW T.uf aB (ae (aa 0) (ae (aE bc (aa 5) af) (ae (aw (aa 1) af) (ae (aa 8) (ae (aa 9) ag)))))) ag)))) ag)))))))))))
  (ar (aG (aa 3))))),?_⟩
  obtain⟨⟨e1,e2⟩,⟨t1,t2⟩,⟨u1,u2⟩,⟨d1,d2⟩,-,hf⟩:=id sh
  have L1:∀ (l:ala) (n:Nat) (H0:Hp),H l=none->ak H H0->H0 l=some (.lst [])->n<=64->DW H a b c l t n 0 [some (.ref a),some (.ref b),some (.ref c),some (.ref l),none,none,none,none,none,none] H0:=fun l n H0 _ s hl _=>⟨[],[],_,_,_,_,_,_,rfl,s,hl,trivial,fun _ h=>by simp at h,rfl⟩
  refine aJ (fun σ H'=>∃ l,σ=[some (.ref a),some (.ref b),some (.ref c),some (.ref l),none,none,none,none,none,none]/\ak H H'/\H l=none/\H' l=some (.lst [])) (fun N hN=>?_) ?_
  ·walk_at "gzn"
   exact⟨by decide,fun l hl=>hN _ _ ⟨l,rfl,ax hl,hl,au⟩⟩
  rintro σ H1 ⟨l,rfl,s1,cE,oY⟩
  refine aJ (fun σ H'=>∃ n:Nat,DW H a b c l t n n σ H'/\n<=64) (fun N hN=>?_) ?_
  ·walk_at "gzn"
   refine⟨a,ns,_,_,rfl,s1.seq hS,hn,by lia,by lia,fun pn pn1 pn2=>?_⟩
   obtain⟨n,rfl⟩:∃ n:Nat,pn=(n:Int):=⟨pn.toNat,by lia⟩
   have DX:n<=64:=by lia
   refine⟨_,rfl,by lia,by lia,kR (DW H a b c l t n) (L1 l n _ cE s1 oY DX) ?_ ?_⟩
   ·rintro i σ H3 hi ⟨xs,ps,_,_,_,_,_,_,rfl,s3,bC,hP,hk,hlen⟩
    walk_at "gzn"
    have hl:=hP.len
    refine⟨iE (by decide) (by lia),aP (s3.seq hb) (v:=.int t) rfl ?_⟩
    refine⟨a,ns,_,_,rfl,s3.seq hS,hn,by lia,by lia,fun p p1 p2=>?_⟩
    refine aP (s3.seq hc) (int_at p1 (by lia)) ?_
    walk_at "gzn"
    refine aP (s3.seq hb) (v:=.int t) rfl ?_
    walk_at "gzn"
    refine bb (fun h1=>?_) fun h1=>?_
    ·refine⟨a,ns,_,_,rfl,s3.seq hS,hn,by lia,by lia,fun r r1 r2=>?_⟩
     walk_at "gzn"
     refine bb (fun h2=>?_) fun h2=>?_
     ·refine aP (s3.seq hc) (int_at (by lia) (by lia)) ?_
      walk_at "gzn"
      refine⟨a,ns,_,_,rfl,s3.seq hS,hn,by lia,by lia,fun z z1 z2=>?_⟩
      walk_at "gzn"
      refine⟨.inl ⟨rfl,_,ah.of bC⟩,aP (s3.seq hb) (v:=.int f) rfl ?_⟩
      refine⟨a,ns,_,_,_,_,rfl,s3.seq hS,hn,by lia,hf,fun w lo hi H5 s5 _ hw _ _=>?_⟩
      walk_at "gzn"
      refine⟨by decide,fun t5 uZ=>?_⟩
      have s6:=ax (o:=.tup [.str "step",.int p,.ref w]) uZ
      refine⟨_,s6 _ _ (s5 _ _ bC),al9 (by lia:xs.length<=64) (by decide),xs++[.ref t5],ps++[(("step",p,lo,hi):Pa)],_,_,_,_,_,_,rfl,fT cE (s3.trans (s5.trans s6)),au,bT.put (ay.snoc (hP.same (s5.trans s6)) ⟨t5,w,rfl,au,s6 _ _ hw⟩) (s6 _ _ (s5 _ _ bC)),fun y hy=>?_,by rw[alD,aly,hlen]⟩
      rcases alK.mp hy with h|h
      ·exact hk y h
      ·obtain rfl:y=(("step",p,lo,hi):Pa):=by simpa using h
       exact Ao.mpr (by dsimp only;lia)
     ·refine⟨a,ns,_,_,rfl,s3.seq hS,hn,by lia,by lia,fun z z1 z2=>?_⟩
      walk_at "gzn"
      refine⟨.inl ⟨rfl,_,ah.of bC⟩,aP (s3.seq hb) (v:=.int f) rfl ?_⟩
      refine⟨a,ns,_,_,_,_,rfl,s3.seq hS,hn,by lia,hf,fun w lo hi H5 s5 _ hw _ _=>?_⟩
      walk_at "gzn"
      refine⟨by decide,fun t5 uZ=>?_⟩
      have s6:=ax (o:=.tup [.str "at",.int p,.ref w]) uZ
      refine⟨_,s6 _ _ (s5 _ _ bC),al9 (by lia:xs.length<=64) (by decide),xs++[.ref t5],ps++[(("at",p,lo,hi):Pa)],_,_,_,_,_,_,rfl,fT cE (s3.trans (s5.trans s6)),au,bT.put (ay.snoc (hP.same (s5.trans s6)) ⟨t5,w,rfl,au,s6 _ _ hw⟩) (s6 _ _ (s5 _ _ bC)),fun y hy=>?_,by rw[alD,aly,hlen]⟩
      rcases alK.mp hy with h|h
      ·exact hk y h
      ·obtain rfl:y=(("at",p,lo,hi):Pa):=by simpa using h
       exact (sQ (show ("at" : Str) ≠ "step" by decide)).mpr ⟨rfl,by dsimp only;lia,by dsimp only;lia⟩
    ·refine⟨a,ns,_,_,rfl,s3.seq hS,hn,by lia,by lia,fun z z1 z2=>?_⟩
     walk_at "gzn"
     refine⟨.inl ⟨rfl,_,ah.of bC⟩,aP (s3.seq hb) (v:=.int f) rfl ?_⟩
     refine⟨a,ns,_,_,_,_,rfl,s3.seq hS,hn,by lia,hf,fun w lo hi H5 s5 _ hw _ _=>?_⟩
     walk_at "gzn"
     refine⟨by decide,fun t5 uZ=>?_⟩
     have s6:=ax (o:=.tup [.str "at",.int p,.ref w]) uZ
     refine⟨_,s6 _ _ (s5 _ _ bC),al9 (by lia:xs.length<=64) (by decide),xs++[.ref t5],ps++[(("at",p,lo,hi):Pa)],_,_,_,_,_,_,rfl,fT cE (s3.trans (s5.trans s6)),au,bT.put (ay.snoc (hP.same (s5.trans s6)) ⟨t5,w,rfl,au,s6 _ _ hw⟩) (s6 _ _ (s5 _ _ bC)),fun y hy=>?_,by rw[alD,aly,hlen]⟩
     rcases alK.mp hy with h|h
     ·exact hk y h
     ·obtain rfl:y=(("at",p,lo,hi):Pa):=by simpa using h
      exact (sQ (show ("at" : Str) ≠ "step" by decide)).mpr ⟨rfl,by dsimp only;lia,by dsimp only;lia⟩
   ·rintro σ H3 h
    exact hN _ _ ⟨n,h,DX⟩
  rintro σ H4 ⟨n,⟨xs,ps,_,_,_,_,_,_,rfl,s4,ie,hP,hk,hlen⟩,DX⟩
  walk_at "gzn"
  exact q l xs ps H4 s4 cE ie hP hk (by lia)
end
section
seal L2.PE L2.PS L2.bw L2.PA
variable {P:alr} {w:alS} {K:ak2} {mg:Str->Option ak3} {base:amH}
inductive Wd (K:ak2) (B:ala) (H:Hp) (a b c w l x p:ala) (ns cs:List Int) (e t u d m f:Int) (tb rs:Tb) (xs:List V) (ps:List Pa):Prop
 | mk (_:H b=some (.lst (gJ e t u d m f))) (_:H c=some (.lst (cs.map V.int))) (_:TabAt H w tb) (_:H l=some (.lst xs)) (_:bT H xs ps) (_:eS B H x e t u d m p rs)
theorem Wd.same {K:ak2} {B:ala} {H H':Hp} {a b c w l x p:ala} {ns cs:List Int} {e t u d m f:Int} {tb rs:Tb} {xs:List V} {ps:List Pa} (h:Wd K B H a b c w l x p ns cs e t u d m f tb rs xs ps) (s:ak H H'):Wd K B H' a b c w l x p ns cs e t u d m f tb rs xs ps:=let ⟨h2,h3,h4,h5,h6,h7⟩:=h;⟨s _ _ h2,s _ _ h3,h4.same s,s _ _ h5,h6.same s,h7.same s⟩
theorem ig.same {G H H':Hp} {v:V} {sw gw:List W2} {tb:Tb} {mo:Int} (x:ig G H v sw gw tb mo) (s:ak H H'):ig G H' v sw gw tb mo:=by
 rcases x with ⟨r,k,j,e,h1,h2,h3⟩|⟨r,k,j,e,h1,h2,h3⟩|⟨r,k,tt,pp,gs,e,h1,h2,h3,h4,h5,h6⟩|⟨r,k,cs,pp,gs,es,e,h1,h2,fk,h3,h4,h5,h6,h7,h8,h9⟩
 ·exact .ky r k j e (s _ _ h1) (s _ _ h2) h3
 ·exact .gol r k j e (s _ _ h1) (s _ _ h2) h3
 ·exact .pap r k tt pp gs e (s _ _ h1) (h2.same s) h3 h4 h5 h6
 ·exact .may r k cs pp gs es e (s _ _ h1) (s _ _ h2) fk h3 h4 h5 h6 h7 h8 h9
theorem acK {t i:Int} {k:Str} (h:hasB t k i=true):apA k=true:=by
 by_cases hs:k = "step"
 ·rw[hs];decide +kernel
 ·rw[((sQ hs).mp h).1];decide +kernel
theorem acL (ps:List Pa) (n:Nat):(cJ ps n).length=n:=by unfold cJ;rw[ak8,alN]
inductive ya (K:ak2) (vs:List V) (H:Hp) (Q:VK) (a8:XK):Prop
 | mk (a:ala) (ns:List Int) (_:vs=[.ref a]) (_:ah K H a (ns.map V.int)) (_:fu ns) (_:∀ H',Q (.bl true) H')
theorem acM (T:Tx K mg):aL P w K mg base (aM P w) 25 T.jG T.xC ["_law_script"] (ya K):=by
 refine okN T.xD ic (fun vs H Q E h=>?_) (fun aI A outer s H vs Q E hr h=>?_)
 ·obtain⟨a,ns,rfl,_⟩:=h
  rfl
 ·obtain⟨a,ns,rfl,hS,hn,q⟩:=h
  refine⟨_,(aq (aD (i:=1) ic.nd rfl (als rfl) (aF (abN T) hr T.aaa T.ud T.Cq aB (ae (aa 0) ag)))
  (aq (aD (i:=2) ic.nd rfl (als rfl) (aF (abQ T) hr T.aab T.ue T.Cs aB (ae (aa 0) (ae (aa 1) ag))))
  (aq (aD (i:=3) ic.nd rfl (als rfl) (aF (ach T) hr T.aac T.ug T.Cw aB (ae (aa 0) (ae (aa 1) (ae (aa 2) ag)))))
  (aq (aD (i:=4) ic.nd rfl (als rfl) (aF (acJ T) hr T.aae T.ui T.CB aB (ae (aa 0) (ae (aa 1) (ae (aa 2) ag)))))
  (aq (aD (i:=5) ic.nd rfl (als rfl) (aF (acn T) hr T.aad T.uh T.Cz aB (ae (aa 0) (ae (aa 1) (ae (aa 3) ag)))))
  (aq (aD (i:=6) ic.nd rfl (als rfl) (r6 za (by rfl) T.nB kP (ae (aa 4) ag)))
  (aq (aD (i:=7) ic.nd rfl (als rfl) (aF (uH T) hr T.t9 T.jD T.mG aB (ae (aa 5) (ae (aa 6) ag))))
  (aq (aN (PW.pt (cp (gp (Vk hr.units) (aa 6) (aa 4) (dW _)) (dc (cL (cT (aF (uU T) hr T.uz T.jF T.nv aB (ae (aa 7) (ae (aa 1) (ae (aa 3) (ae (aa 4) ag)))))))))) (ar (aG dJ)) aO)
  (aq (aD (i:=8) ic.nd rfl (als rfl) (aF (acF T) hr T.aap T.uC T.C6 aB (ae (aa 7) ag)))
  (aq (dw (i9 al0 amv amw kM (aa 6) (ae (bg (ae bH (ae af (ae (bg (ae af (ae af ag))) ag)))) ag)))
  (aq (aD (i:=9) ic.nd rfl (als rfl) (aF (uH T) hr T.t9 T.jD T.mG aB (ae (aa 5) (ae (cF ag) ag))))
  (aq (aN (cL (cT (aF (uU T) hr T.uz T.jF T.nv aB (ae (aa 9) (ae (aa 1) (ae (aa 3) (ae (cF ag) ag))))))) (ar (aG dJ)) aO)
  (aq (aN (b8 (aw (aa 9) af) bH) (ar (dw (K6 al0 PySem.F.slot_list_clear PySem.F.type_list_clear TV (aw (aa 9) af)))) aO)
  (aq (aN (cL (cT (aF (uU T) hr T.uz T.jF T.nv aB (ae (aF (uH T) hr T.t9 T.jD T.mG aB (ae (aa 5) (ae (cF ag) ag))) (ae (aa 1) (ae (aa 3) (ae (cF ag) ag))))))) (ar (aG dJ)) aO)
  (aq (dw (aF (acH T) hr T.aao T.uB T.C4 aB (ae (aa 0) (ae (aa 1) (ae (aa 2) (ae (aa 3) (ae (aa 5) ag)))))))
  (aq (aD (i:=10) ic.nd rfl (als rfl) (aF (uH T) hr T.t9 T.jD T.mG aB (ae (aa 5) (ae (r6 za (by rfl) T.nB kP (ae (aa 4) ag)) ag))))
  (aq (aN (PW.pt (cp (cL (cT (aF (uU T) hr T.uz T.jF T.nv aB (ae (aa 10) (ae (aa 1) (ae (aa 3) (ae (aa 4) ag))))))) (dc (cL (cT (aF (uU T) hr T.uz T.jF T.nv aB (ae (aF (uH T) hr T.t9 T.jD T.mG aB (ae (aa 5) (ae (cF ag) ag))) (ae (aa 1) (ae (aa 3) (ae (cF ag) ag)))))))))) (ar (aG dJ)) aO)
  (ar (aG (iQ (aF (acr T) hr T.aan T.uA T.C2 aB (ae (aa 5) (ae (aa 3) ag))) (i3 (gP (zU hr.units) (aw (aa 7) af) (aa 8) (dW _))))))))))))))))))))))),?_⟩
  refine aJ (fun σ H1=>∃ (b:ala) (e t u d m f:Int),σ=[some (.ref a),some (.ref b),none,none,none,none,none,none,none,none,none]/\ak H H1/\H1 b=some (.lst (gJ e t u d m f))/\ik e t u d m f) (fun N hN=>?_) ?_
  ·walk_at "gzn"
   exact⟨a,ns,rfl,hS,hn,fun b e t u d m f H1 s1 _ hb sh=>hN _ _ ⟨b,e,t,u,d,m,f,rfl,s1,hb,sh⟩⟩
  rintro σ H1 ⟨b,e,t,u,d,m,f,rfl,s1,hb,sh⟩
  refine aJ (fun σ H2=>∃ (c:ala) (cs:List Int),σ=[some (.ref a),some (.ref b),some (.ref c),none,none,none,none,none,none,none,none]/\ak H1 H2/\H2 c=some (.lst (cs.map V.int))/\cs.length=t.toNat) (fun N hN=>?_) ?_
  ·walk_at "gzn"
   exact⟨a,b,ns,e,t,u,d,m,f,rfl,s1.seq hS,hn,ah.of hb,sh,fun c cs H2 s2 _ hc bN _=>hN _ _ ⟨c,cs,rfl,s2,hc,bN⟩⟩
  rintro σ H2 ⟨c,cs,rfl,s2,hc,bN⟩
  refine aJ (fun σ H3=>∃ (w:ala) (tb:Tb),σ=[some (.ref a),some (.ref b),some (.ref c),some (.ref w),none,none,none,none,none,none,none]/\ak H2 H3/\TabAt H3 w tb/\bZ e t tb/\tb.length<=24/\∀ r∈tb,aY r.2.1 r.2.2=false) (fun N hN=>?_) ?_
  ·walk_at "gzn"
   exact⟨a,b,c,ns,cs,e,t,u,d,m,f,rfl,(s1.trans s2).seq hS,hn,ah.of (s2 _ _ hb),sh,ah.of hc,bN,fun w tb H3 s3 fw hT ao uP dI=>hN _ _ ⟨w,tb,rfl,s3,hT,ao,uP,dI⟩⟩
  rintro σ H3 ⟨w,tb,rfl,s3,hT,ao,uP,dI⟩
  have S3:=s1.trans (s2.trans s3)
  have b3:=(s2.trans s3) _ _ hb
  have c3:=s3 _ _ hc
  refine aJ (fun σ H4=>∃ (l:ala) (xs:List V) (ps:List Pa),σ=[some (.ref a),some (.ref b),some (.ref c),some (.ref w),some (.ref l),none,none,none,none,none,none]/\ak H3 H4/\H4 l=some (.lst xs)/\bT H4 xs ps/\eO t ps/\ps.length<=64) (fun N hN=>?_) ?_
  ·walk_at "gzn"
   exact⟨a,b,c,ns,cs,e,t,u,d,m,f,rfl,S3.seq hS,hn,ah.of b3,sh,ah.of c3,bN,fun l xs ps H4 s4 _ hl hP hk hlen=>hN _ _ ⟨l,xs,ps,rfl,s4,hl,hP,hk,hlen⟩⟩
  rintro σ H4 ⟨l,xs,ps,rfl,s4,hl,hP,hk,hlen⟩
  refine aJ (fun σ H5=>∃ (x p:ala) (rs:Tb),σ=[some (.ref a),some (.ref b),some (.ref c),some (.ref w),some (.ref l),some (.ref x),none,none,none,none,none]/\w≠p/\rs.Perm tb/\ah K H5 a (ns.map V.int)/\Wd K T.aQ H5 a b c w l x p ns cs e t u d m f tb rs xs ps) (fun N hN=>?_) ?_
  ·walk_at "gzn"
   refine⟨a,b,w,ns,e,t,u,d,m,f,tb,rfl,(S3.trans s4).seq hS,hn,ah.of (s4 _ _ b3),sh,hT.same s4,ao,by lia,dI,fun x p rs H5 s5 fx fp hB rE=>hN _ _ ⟨x,p,rs,rfl,(hT.same s4).ne fp,?_,(S3.trans (s4.trans s5)).seq hS,(s4.trans s5) _ _ b3,(s4.trans s5) _ _ c3,hT.same (s4.trans s5),s5 _ _ hl,hP.same s5,hB⟩⟩
   rcases rE with rfl|rfl
   ·exact .refl _
   ·exact arQ _
  rintro σ H5 ⟨x,p,rs,rfl,wp,cj,A5,W5⟩
  clear hT hb hc b3 c3 hl hP S3 s1 s2 s3 s4 hS
  obtain⟨he,ht,⟨u1,-⟩,⟨d1,-⟩,hm,-⟩:=id sh
  have uQ:∀ {br da:Tb},bZ e t br->da.Perm br->bZ e t da:=fun ho pm=>⟨(pm.map _).nodup_iff.mpr ho.1,fun r hr=>ho.2 r (pm.mem_iff.mp hr)⟩
  have u5:∀ {br da:Tb} {H6:Hp} {o:ala} {ys:List V} {qs:List Pa} {Q':VK} {E':XK},bZ e t br->da.Perm br->br.length<=60->Wd K T.aQ H6 a b c w l x p ns cs e t u d m f br da xs ps->H6 o=some (.lst ys)->bT H6 ys qs->qs.length<=64->eO t qs->(∀ v H',ak H6 H'->ig H6 H' v (cV u d qs (t-1).toNat) (cJ qs t.toNat) da m->Q' v H')->PV K T.aQ [.ref x,.ref o] H6 Q' E':=fun ho pm hl hw h1 h2 h3 h4 h5=>by
   obtain⟨_,_,_,_,_,hB⟩:=hw
   exact⟨x,p,_,e,t,u,d,m,_,_,_,rfl,hB,uQ ho pm,by have:=pm.length_eq;lia,ht.1,ht.2,by lia,he.2,by lia,by lia,ah.of h1,h2,by lia,h4,h5⟩
  have u6:∀ {br da:Tb} {G H6:Hp} {v:V} {o:ala} {ys:List V} {qs:List Pa} {Q':VK} {E':XK},bZ e t br->da.Perm br->br.length<=60->Wd K T.aQ H6 a b c w l x p ns cs e t u d m f br da xs ps->H6 o=some (.lst ys)->bT H6 ys qs->qs.length<=64->eO t qs->ig G H6 v (cV u d qs (t-1).toNat) (cJ qs t.toNat) da m->(∀ H',ak H6 H'->Q' (.bl true) H')->QA K [v,.ref b,.ref w,.ref o] H6 Q' E':=fun ho pm hl hw h1 h2 h3 h4 hA h5=>by
   obtain⟨hb,_,hT,_,_,_⟩:=hw
   exact⟨_,_,b,w,_,e,t,u,d,m,f,_,_,_,_,rfl,hA,pm,ah.of hb,sh,hT,ho,hl,ah.of h1,h2,by lia,h4,h5⟩
  have k0:eO t []:=fun _ h=>(nomatch h)
  refine aJ (fun σ H6=>∃ h,σ=[some (.ref a),some (.ref b),some (.ref c),some (.ref w),some (.ref l),some (.ref x),some (.ref h),none,none,none,none]/\ak H5 H6/\H5 h=none/\H6 h=some (.lst xs)) (fun N hN=>?_) ?_
  ·obtain⟨_,_,_,hl,_,_⟩:=id W5
   walk_at "gzn"
   exact⟨_,.inl (ah.of hl),fun h hh=>hN _ _ ⟨h,rfl,ax hh,hh,au⟩⟩
  rintro σ H6 ⟨h,rfl,s6,fh,hh⟩
  have W6:=W5.same s6
  refine aJ (fun σ H7=>∃ v1,σ=[some (.ref a),some (.ref b),some (.ref c),some (.ref w),some (.ref l),some (.ref x),some (.ref h),some v1,none,none,none]/\ak H6 H7/\ig H6 H7 v1 (cV u d ps (t-1).toNat) (cJ ps t.toNat) rs m) (fun N hN=>?_) ?_
  ·obtain⟨_,_,_,_,hP,_⟩:=id W6
   walk_at "gzn"
   exact u5 ao cj (by lia) W6 hh hP hlen hk fun v H' s' hA=>hN _ _ ⟨v,rfl,s',hA⟩
  rintro σ H7 ⟨v1,rfl,s7,A7⟩
  have W7:=W6.same s7
  refine aJ (fun σ H8=>σ=[some (.ref a),some (.ref b),some (.ref c),some (.ref w),some (.ref l),some (.ref x),some (.ref h),some v1,none,none,none]/\ak H7 H8) (fun N hN=>?_) ?_
  ·obtain⟨_,_,_,hl,hP,_⟩:=id W7
   have DP:Gd 3 (.list (ps.map Aq)):=Gd.lst fun dd lj=>by
    obtain⟨p,hp,rfl⟩:=alF.mp lj
    exact Wv (acK (hk p hp))
   walk_at "gzn"
   refine sR (.lst (ah.of (s7 _ _ hh)) (ee.Ap (fun _ _ r=>gC.dat r) hP)) (.lst (ah.of hl) (ee.Ap (fun _ _ r=>gC.dat r) hP)) DP (by decide) ⟨_,rfl,?_⟩
   walk_at "gzn"
   refine u6 ao cj (by lia) W7 hl hP hlen hk A7 fun H' s'=>?_
   walk_at "gzn"
   exact hN _ _ ⟨rfl,s'⟩
  rintro σ H8 ⟨rfl,s8⟩
  refine aJ (fun σ H9=>∃ kv,σ=[some (.ref a),some (.ref b),some (.ref c),some (.ref w),some (.ref l),some (.ref x),some (.ref h),some v1,some kv,none,none]/\ak H8 H9/\Kp h H9 v1 kv) (fun N hN=>?_) ?_
  ·walk_at "gzn"
   exact⟨H6,v1,h,xs,_,_,rs,m,rfl,A7.same s8,by rw[acL];lia,hh,(s7.trans s8) _ _ hh,fun kv H9 s9 hK=>hN _ _ ⟨kv,rfl,s9,hK⟩⟩
  rintro σ H9 ⟨kv,rfl,s9,K9⟩
  have QD:=s7.trans (s8.trans s9)
  have QE:=QD _ _ hh
  refine aJ (fun σ rG=>σ=[some (.ref a),some (.ref b),some (.ref c),some (.ref w),some (.ref l),some (.ref x),some (.ref h),some v1,some kv,none,none]/\ak H5 rG/\Kp h rG v1 kv) (fun N hN=>?_) ?_
  ·obtain⟨_,_,_,_,hP,_⟩:=id W6
   have xl:xs.length=ps.length:=ay.len hP
   walk_at "gzn"
   refine⟨.inl ⟨rfl,_,ah.of QE⟩,bq,fun p1 gd=>⟨by decide,fun p2 d8=>?_⟩⟩
   have u1:=ax (o:=.tup [.int 1,.int 1]) gd
   have u2:=ax (o:=.tup [.str "at",.int 0,.ref p1]) d8
   have U:=u1.trans u2
   have QF:=U _ _ QE
   refine⟨xs,QF,al9 (by lia:xs.length<=64) (by decide),hN _ _ ⟨rfl,fT fh (s6.trans (QD.trans U)),(K9.same U).go (fun z us hz=>?_) fun z us hz e=>?_⟩⟩
   ·rw[aH (fun y=>by rw[y,QF] at hz;cases hz)];exact hz
   ·rw[aH hz];exact e
  rintro σ rG ⟨rfl,QG,K10⟩
  have DY:=W5.same QG
  refine aJ (fun σ yb=>∃ v2 G,σ=[some (.ref a),some (.ref b),some (.ref c),some (.ref w),some (.ref l),some (.ref x),some (.ref h),some v1,some kv,some v2,none]/\ak rG G/\ak rG yb/\ig G yb v2 (cV u d [] (t-1).toNat) (cJ [] t.toNat) rs m) (fun N hN=>?_) ?_
  ·walk_at "gzn"
   refine⟨alv _,fun o ho=>?_⟩
   have uo:=ax (o:=.lst []) ho
   exact u5 ao cj (by lia) (DY.same uo) au (show bT _ [] [] from trivial) (alv _) k0 fun v H' s' hA=>hN _ _ ⟨v,_,rfl,uo,uo.trans s',hA⟩
  rintro σ yb ⟨v2,G,rfl,g11,QH,yc⟩
  refine aJ (fun σ QJ=>σ=[some (.ref a),some (.ref b),some (.ref c),some (.ref w),some (.ref l),some (.ref x),some (.ref h),some v1,some kv,some v2,none]/\ak yb QJ) (fun N hN=>?_) ?_
  ·walk_at "gzn"
   refine⟨alv _,fun o ho=>?_⟩
   have uo:=ax (o:=.lst []) ho
   refine u6 ao cj (by lia) (DY.same (QH.trans uo)) au (show bT _ [] [] from trivial) (alv _) k0 (yc.same uo) fun H' s'=>?_
   walk_at "gzn"
   exact hN _ _ ⟨rfl,uo.trans s'⟩
  rintro σ QJ ⟨rfl,QK⟩
  replace yc:=yc.same QK
  have yd:=QH.trans QK
  refine aJ (fun σ DZ=>σ=[some (.ref a),some (.ref b),some (.ref c),some (.ref w),some (.ref l),some (.ref x),some (.ref h),some v1,some kv,some v2,none]/\ak rG DZ) (fun N hN=>?_) ?_
  ·rcases yc with ⟨r,k,j,rfl,h1,h2,h3⟩|⟨r,k,j,rfl,h1,h2,h3⟩|⟨r,k,tt,pp,gs,rfl,h1,h2,h3,h4,h5,h6⟩|⟨r,k,co,pp,gs,es,rfl,h1,h2,fk,h3,_⟩
   ·walk_at "gzn"
    refine aA (aj.of h1) (v:=.str "never") rfl ?_
    walk_at "gzn"
    rw[if_neg (by decide)]
    exact hN _ _ ⟨rfl,yd⟩
   ·walk_at "gzn"
    refine aA (aj.of h1) (v:=.str "never") rfl ?_
    walk_at "gzn"
    rw[if_neg (by decide)]
    exact hN _ _ ⟨rfl,yd⟩
   ·walk_at "gzn"
    refine aA (aj.of h1) (v:=.str "never") rfl ?_
    walk_at "gzn"
    rw[if_neg (by decide)]
    exact hN _ _ ⟨rfl,yd⟩
   ·walk_at "gzn"
    refine aA (aj.of h1) (v:=.str "may") rfl ?_
    walk_at "gzn"
    refine aA (aj.of h1) (v:=.ref k) rfl ?_
    walk_at "gzn"
    exact⟨.inl ⟨rfl,_,ah.of h2⟩,k,_,rfl,rfl,h2,hN _ _ ⟨rfl,fT (g11.free fk) yd⟩⟩
  rintro σ DZ ⟨rfl,D0⟩
  have D1:=DY.same D0
  refine aJ (fun σ u7=>σ=[some (.ref a),some (.ref b),some (.ref c),some (.ref w),some (.ref l),some (.ref x),some (.ref h),some v1,some kv,some v2,none]/\ak DZ u7) (fun N hN=>?_) ?_
  ·walk_at "gzn"
   refine⟨alv _,fun o ho=>?_⟩
   have uo:=ax (o:=.lst []) ho
   refine u5 ao cj (by lia) (D1.same uo) au (show bT _ [] [] from trivial) (alv _) k0 fun v H' s' hA=>⟨alv _,fun o2 D2=>?_⟩
   have rH:=ax (o:=.lst []) D2
   refine u6 ao cj (by lia) (D1.same (uo.trans (s'.trans rH))) au (show bT _ [] [] from trivial) (alv _) k0 (hA.same rH) fun k9 i6=>?_
   walk_at "gzn"
   exact hN _ _ ⟨rfl,uo.trans (s'.trans (rH.trans i6))⟩
  rintro σ u7 ⟨rfl,D3⟩
  have W14:=D1.same D3
  obtain⟨QL,QM,QN,l14,P14,QO⟩:=id W14
  have a14:=(QG.trans (D0.trans D3)).seq A5
  refine aJ (fun σ vc=>∃ (br da:Tb),σ=[some (.ref a),some (.ref b),some (.ref c),some (.ref w),some (.ref l),some (.ref x),some (.ref h),some v1,some kv,some v2,none]/\Fr u7 vc/\da.Perm br/\bZ e t br/\br.length<=25/\Wd K T.aQ vc a b c w l x p ns cs e t u d m f br da xs ps) (fun N hN=>?_) ?_
  ·walk_at "gzn"
   refine⟨a,b,c,w,x,p,ns,cs,e,t,u,d,m,f,tb,rs,rfl,a14,hn,ah.of QL,sh,ah.of QM,bN,QN,QO,wp,cj,ao,by lia,dI,fun br da H7 bu hT7 hB7 hp7 acN hl7 _=>?_⟩
   have F:Fr u7 H7:=j4.fr bu fun q hq=>by
    have i5:q=w∨q=p:=by simpa using hq
    rcases i5 with rfl|rfl
    ·exact QN.M0
    ·exact QO.tb.M0
   have fl:∀ (z:ala) (us:List V),u7 z=some (.lst us)->H7 z=some (.lst us):=fun z us hz=>F z (.lst us) (fun _ z=>nomatch z) hz
   refine hN _ _ ⟨br,da,rfl,F,hp7,acN,by lia,fl _ _ QL,fl _ _ QM,hT7,fl _ _ l14,P14.imp fun _ _ ⟨t,q,e,h1,h2⟩=>⟨t,q,e,F t _ (fun _ z=>nomatch z) h1,F q _ (fun _ z=>nomatch z) h2⟩,hB7⟩
  rintro σ vc ⟨br,da,rfl,F,vd,ji,l25,nU⟩
  refine aJ (fun σ D4=>∃ v3 G,σ=[some (.ref a),some (.ref b),some (.ref c),some (.ref w),some (.ref l),some (.ref x),some (.ref h),some v1,some kv,some v2,some v3]/\ak vc D4/\ig G D4 v3 (cV u d ps (t-1).toNat) (cJ ps t.toNat) da m) (fun N hN=>?_) ?_
  ·obtain⟨_,_,_,hl,hP,_⟩:=id nU
   walk_at "gzn"
   refine⟨_,.inl (ah.of hl),fun o ho=>?_⟩
   have uo:=ax (o:=.lst xs) ho
   exact u5 ji vd (by lia) (nU.same uo) au (hP.same uo) hlen hk fun v H' s' hA=>hN _ _ ⟨v,_,rfl,uo.trans s',hA⟩
  rintro σ D4 ⟨v3,G3,rfl,ye,A16⟩
  refine aJ (fun σ D5=>σ=[some (.ref a),some (.ref b),some (.ref c),some (.ref w),some (.ref l),some (.ref x),some (.ref h),some v1,some kv,some v2,some v3]/\ak vc D5) (fun N hN=>?_) ?_
  ·obtain⟨_,_,_,hl,hP,_⟩:=id (nU.same ye)
   walk_at "gzn"
   refine u6 ji vd (by lia) (nU.same ye) hl hP hlen hk A16 fun H' s'=>?_
   walk_at "gzn"
   refine⟨alv _,fun o ho=>?_⟩
   have uo:=ax (o:=.lst []) ho
   refine u5 ji vd (by lia) (nU.same (ye.trans (s'.trans uo))) au (show bT _ [] [] from trivial) (alv _) k0 fun v k9 i6 hA=>⟨alv _,fun o2 D2=>?_⟩
   have rH:=ax (o:=.lst []) D2
   have W:=ye.trans (s'.trans (uo.trans (i6.trans rH)))
   refine u6 ji vd (by lia) (nU.same W) au (show bT _ [] [] from trivial) (alv _) k0 (hA.same rH) fun H3 s3=>?_
   walk_at "gzn"
   exact hN _ _ ⟨rfl,W.trans s3⟩
  rintro σ D5 ⟨rfl,QP⟩
  obtain⟨_,_,hT,_,_,hB⟩:=id (nU.same QP)
  have K17:Kp h D5 v1 kv:=(Kp.go (K10.same (D0.trans D3)) (fun z us hz=>F z (.tup us) (fun _ z=>nomatch z) hz) (fun z us _ hz=>F z (.lst us) (fun _ z=>nomatch z) hz)).same QP
  walk_at "gzn"
  refine⟨x,p,w,e,t,u,d,m,br,da,rfl,hB,hT,ji,vd,by lia,fun H18 s18=>?_⟩
  walk_at "gzn"
  rcases K17.same s18 with ⟨r,k,k2,co,rfl,h1,rfl,h2,h3,n1,n2⟩|⟨r,k,wd,j,ow,rfl,h1,rfl,h2⟩|⟨r,tt,rfl,h1,h2,h3⟩
  ·exact aA (aj.of h1) (v:=.ref k) rfl (sR (.lst (ah.of h2) (Ad co)) (.lst (ah.of h3) (Ad co)) (Gd.lst (n:=0) fun dd hd=>by obtain⟨i,_,rfl⟩:=alF.mp hd;exact Gd.int _) (by decide) (q _))
  ·exact aA (aj.of h1) (v:=.ref k) rfl (sR (.tup (aj.of h2) (.cons (.str _) (.cons (.int _) .nil))) (.tup (aj.of h2) (.cons (.str _) (.cons (.int _) .nil))) (DG ow j) (by decide) (q _))
  ·exact aA (aj.of h1) (v:=kv) rfl (sR (uK h2) (uK h2) (xW tt) (by lia) (q _))
end
theorem acO {l:aqH} {w:alS} {K:ak2} {h:amH} {mg:Str->Option ak3} {fa:ala} (X:K.In h) (G:h.Ns ale mg) (hfa:mg "law" = some (.ref fa))
 {D6:ala} {acP acQ:Option ala} {acR:Array (Option ak3)} {acS acT acU acV QQ acW:ak3}
 {D7:ala} {acX acY:Option ala} {acZ:Array (Option ak3)} {ac0 ac1 ac2 ac3 QS ac4:ak3}
 {D8:ala} {ac5 ac6:Option ala} {ac7:Array (Option ak3)} {ac8 ac9 ada adb QT ade:ak3}
 {D9:ala} {adf adg:Option ala} {adh:Array (Option ak3)} {adi adj adk adl QU adm:ak3}
 {Ea:ala} {adn ado:Option ala} {adp:Array (Option ak3)} {adq ads adt adu QV adv:ak3}
 {Eb:ala} {adw adx:Option ala} {ady:Array (Option ak3)} {adz adA adB adC QW adD:ak3}
 {Ec:ala} {adE adF:Option ala} {adG:Array (Option ak3)} {adH adI adJ adK QX adL:ak3}
 {Ed:ala} {adM adN:Option ala} {adO:Array (Option ak3)} {adP adQ adR adS QY adT:ak3}
 {Ee:ala} {adU adV:Option ala} {adW:Array (Option ak3)} {adX adY adZ ad0 QZ ad1:ak3}
 {Ef:ala} {ad2 ad3:Option ala} {ad4:Array (Option ak3)} {ad5 ad6 ad7 ad8 Q0 ad9:ak3}
 {Eg:ala} {aea aeb:Option ala} {aec:Array (Option ak3)} {aed aee aef aeg Q3 aeh:ak3}
 {Eh:ala} {aei aej:Option ala} {aek:Array (Option ak3)} {ael aem aen aeo Q4 aep:ak3}
 {Ei:ala} {aeq aer:Option ala} {aes:Array (Option ak3)} {aet aeu aev aew Q5 aex:ak3}
 {Ej:ala} {aey aez:Option ala} {aeA:Array (Option ak3)} {aeB aeC aeD aeE Q6 aeF:ak3}
 {Ek:ala} {aeG aeH:Option ala} {aeI:Array (Option ak3)} {aeJ aeK aeL aeM Q7 aeN:ak3}
 {El:ala} {aeO aeP:Option ala} {aeQ:Array (Option ak3)} {aeR aeS aeT aeU Q8 aeV:ak3}
 {Em:ala} {aeW aeX:Option ala} {aeY:Array (Option ak3)} {aeZ ae0 ae1 ae2 Q9 ae3:ak3}
 {Eo:ala} {ae4 ae5:Option ala} {ae6:Array (Option ak3)} {ae7 ae8 ae9 afa Ra afb:ak3}
 {Ep:ala} {afc afd:Option ala} {afe:Array (Option ak3)} {aff afg afh afi Rb afj:ak3}
 {Er:ala} {afk afl:Option ala} {afm:Array (Option ak3)} {afn afo afp afq Rc afr:ak3}
 {Es:ala} {afs aft:Option ala} {afu:Array (Option ak3)} {afv afw afx afy Rf afz:ak3}
 {Et:ala} {afA afB:Option ala} {afC:Array (Option ak3)} {afD afE afF afG Rg afH:ak3}
 {Eu:ala} {afI afJ:Option ala} {afK:Array (Option ak3)} {afL afM afN afO Rh afP:ak3}
 {Ew:ala} {afQ afR:Option ala} {afS:Array (Option ak3)} {afT afU afV afW Ri afX:ak3}
 {Ex:ala} {afY afZ:Option ala} {af0:Array (Option ak3)} {af1 af2 af3 af4 Rj af5:ak3}
 {Ey:ala} {af6 af7:Option ala} {af8:Array (Option ak3)} {af9 aga agb agc Rk agd:ak3}
 {Ez:ala} {age agf:Option ala} {agg:Array (Option ak3)} {agh agi agj agk Rl agl:ak3}
 {EA:ala} {agm agn:Option ala} {ago:Array (Option ak3)} {agp agq agr ags Rm agt:ak3}
 {yf:ala} {agu agv:Option ala} {agw:Array (Option ak3)} {agx agy agz agA Rn agB:ak3}
 {yg:ala} {agC agD:Option ala} {agE:Array (Option ak3)} {agF agG agH agI Ro agJ:ak3}
 {yh:ala} {agK agL:Option ala} {agM:Array (Option ak3)} {agN agO agP agQ Rp agR:ak3}
 {yi:ala} {agS agT:Option ala} {agU:Array (Option ak3)} {agV agW agX agY Rq agZ:ak3}
 {yj:ala} {ag0 ag1:Option ala} {ag2:Array (Option ak3)} {ag3 ag4 ag5 ag6 Rr ag7:ak3}
 {yk:ala} {ag8 ag9:Option ala} {aha:Array (Option ak3)} {ahb ahc ahd ahe Rt ahf:ak3}
 {ym:ala} {ahg ahh:Option ala} {ahi:Array (Option ak3)} {ahj ahk ahl ahm Ru ahn:ak3}
 {yn:ala} {aho ahp:Option ala} {ahq:Array (Option ak3)} {ahr ahs aht ahu Rv ahv:ak3}
 {EB:ala} {ahw ahx:Option ala} {ahy:Array (Option ak3)} {ahz ahA ahB ahC Rw ahD:ak3}
 {EC:ala} {ahE ahF:Option ala} {ahG:Array (Option ak3)} {ahH ahI ahJ ahK Rx ahL:ak3}
 {ED:ala} {ahM ahN:Option ala} {ahO:Array (Option ak3)} {ahP ahQ ahR ahS Ry ahT:ak3}
 {EE:ala} {ahU ahV:Option ala} {ahW:Array (Option ak3)} {ahX ahY ahZ ah0 Rz ah1:ak3}
 {EF:ala} {ah2 ah3:Option ala} {ah4:Array (Option ak3)} {ah5 ah6 ah7 ah8 RA ah9:ak3}
 {EG:ala} {aia aib:Option ala} {aic:Array (Option ak3)} {aid aie aif aih RB aii:ak3}
 {EH:ala} {aij aik:Option ala} {ail:Array (Option ak3)} {aim ain aio aip RC aiq:ak3}
 {EI:ala} {air ais:Option ala} {ait:Array (Option ak3)} {aiu aiv aiw aix RD aiy:ak3}
 {EJ:ala} {aiz aiA:Option ala} {aiB:Array (Option ak3)} {aiC aiD aiE aiF RE aiG:ak3}
 {EK:ala} {aiH aiI:Option ala} {aiJ:Array (Option ak3)} {aiK aiL aiM aiN RF aiO:ak3}
 {EL:ala} {aiP aiQ:Option ala} {aiR:Array (Option ak3)} {aiS aiT aiU aiV RG aiW:ak3}
 {EM:ala} {aiX aiY:Option ala} {aiZ:Array (Option ak3)} {ai0 ai1 ai2 ai3 RH ai4:ak3}
 {EN:ala} {ai5 ai6:Option ala} {ai7:Array (Option ak3)} {ai8 ai9 aja ajb RI ajc:ak3}
 {EO:ala} {ajd aje:Option ala} {ajf:Array (Option ak3)} {ajg ajh aji ajj RJ ajk:ak3}
 {ER:ala} {ajl ajm:Option ala} {ajn:Array (Option ak3)} {ajo ajp ajq ajr RK ajs:ak3}
 {ES:ala} {ajt aju:Option ala} {ajv:Array (Option ak3)} {ajw ajx ajy ajz RL ajA:ak3}
 {ET:ala} {ajB ajC:Option ala} {ajD:Array (Option ak3)} {ajE ajF ajG ajH RM ajI:ak3}
 {EU:ala} {ajJ ajK:Option ala} {ajL:Array (Option ak3)} {ajM ajN ajO ajP RN ajQ:ak3}
 {EV:ala} {ajR ajS:Option ala} {ajT:Array (Option ak3)} {ajU ajV ajW ajX RO ajY:ak3}
 {EW:ala} {ajZ aj0:Option ala} {aj1:Array (Option ak3)} {aj2 aj3 aj4 aj5 RP aj6:ak3}
 {EX:ala} {aj7 aj8:Option ala} {aj9:Array (Option ak3)} {aka akb akc akd RQ ake:ak3}
 {EY:ala} {akf akg:Option ala} {akh:Array (Option ak3)} {aki akj akk akl RS akm:ak3}
 {EZ:ala} {akn ako:Option ala} {akp:Array (Option ak3)} {akq akr aks akt RT aku:ak3}
 {E1:ala} {akv akw:Option ala} {akx:Array (Option ak3)} {aky akz akA akB RU akC:ak3}
 {E2:ala} {akD akE:Option ala} {akF:Array (Option ak3)} {akG akH akI akJ RV akK:ak3}
 {E3:ala} {akL E4:Option ala} {akM:Array (Option ak3)} {akN E5 E6 E7 yo E8:ak3}
 {xF:ala}
 {f7:ala}
 {eE:ala}
 {fF:ala}
 {aQ:ala}
 {akO:Tok}
 {akP:Tok}
 (lP:alf K ale "is_crossed" = some (some (.ref D6))) (E9:K.lookup D6=some ⟨acS,acP,.func (alh "is_crossed" "is_crossed" (aS pe) (aR pe) (az pe) .none acT acU acV acQ QQ acW),acR⟩) (Fb:ald K QQ "is_crossed" = true) (Fc:alc K (.ref D6)=true)
 (lQ:alf K ale "meet" = some (some (.ref D7))) (Fd:K.lookup D7=some ⟨ac0,acX,.func (alh "meet" "meet" (aS pf) (aR pf) (az pf) .none ac1 ac2 ac3 acY QS ac4),acZ⟩) (Fe:ald K QS "meet" = true) (Ff:alc K (.ref D7)=true)
 (lS:alf K ale "common" = some (some (.ref D8))) (Fg:K.lookup D8=some ⟨ac8,ac5,.func (alh "common" "common" (aS ph) (aR ph) (az ph) .none ac9 ada adb ac6 QT ade),ac7⟩) (Fh:ald K QT "common" = true) (Fi:alc K (.ref D8)=true)
 (lU:alf K ale "number_in" = some (some (.ref D9))) (Fj:K.lookup D9=some ⟨adi,adf,.func (alh "number_in" "number_in" (aS pj) (aR pj) (az pj) .none adj adk adl adg QU adm),adh⟩) (Fl:ald K QU "number_in" = true) (Fm:alc K (.ref D9)=true)
 (lV:alf K ale "moved" = some (some (.ref Ea))) (Fn:K.lookup Ea=some ⟨adq,adn,.func (alh "moved" "moved" (aS pq) (aR pq) (az pq) .none ads adt adu ado QV adv),adp⟩) (Fo:ald K QV "moved" = true) (Fp:alc K (.ref Ea)=true)
 (lW:alf K ale "narrowed" = some (some (.ref Eb))) (Fq:K.lookup Eb=some ⟨adz,adw,.func (alh "narrowed" "narrowed" (aS pw) (aR pw) (az pw) .none adA adB adC adx QW adD),ady⟩) (Fs:ald K QW "narrowed" = true) (Ft:alc K (.ref Eb)=true)
 (lX:alf K ale "stretches_at" = some (some (.ref Ec))) (Fu:K.lookup Ec=some ⟨adH,adE,.func (alh "stretches_at" "stretches_at" (aS pA) (aR pA) (az pA) .none adI adJ adK adF QX adL),adG⟩) (Fv:ald K QX "stretches_at" = true) (Fw:alc K (.ref Ec)=true)
 (lY:alf K ale "tube" = some (some (.ref Ed))) (Fx:K.lookup Ed=some ⟨adP,adM,.func (alh "tube" "tube" (aS pB) (aR pB) (az pB) .none adQ adR adS adN QY adT),adO⟩) (Fy:ald K QY "tube" = true) (Fz:alc K (.ref Ed)=true)
 (lZ:alf K ale "course_in" = some (some (.ref Ee))) (FA:K.lookup Ee=some ⟨adX,adU,.func (alh "course_in" "course_in" (aS pC) (aR pC) (az pC) .none adY adZ ad0 adV QZ ad1),adW⟩) (FC:ald K QZ "course_in" = true) (FD:alc K (.ref Ee)=true)
 (l6:alf K ale "lesser" = some (some (.ref Ef))) (FE:K.lookup Ef=some ⟨ad5,ad2,.func (alh "lesser" "lesser" (aS pE) (aR pE) (az pE) .none ad6 ad7 ad8 ad3 Q0 ad9),ad4⟩) (FF:ald K Q0 "lesser" = true) (FG:alc K (.ref Ef)=true)
 (md:alf K ale "lifted" = some (some (.ref Eg))) (FH:K.lookup Eg=some ⟨aed,aea,.func (alh "lifted" "lifted" (aS pF) (aR pF) (az pF) .none aee aef aeg aeb Q3 aeh),aec⟩) (FI:ald K Q3 "lifted" = true) (FK:alc K (.ref Eg)=true)
 (me:alf K ale "ceilings" = some (some (.ref Eh))) (FL:K.lookup Eh=some ⟨ael,aei,.func (alh "ceilings" "ceilings" (aS pG) (aR pG) (az pG) .none aem aen aeo aej Q4 aep),aek⟩) (FN:ald K Q4 "ceilings" = true) (FO:alc K (.ref Eh)=true)
 (mf:alf K ale "crossing" = some (some (.ref Ei))) (FP:K.lookup Ei=some ⟨aet,aeq,.func (alh "crossing" "crossing" (aS pH) (aR pH) (az pH) .none aeu aev aew aer Q5 aex),aes⟩) (FQ:ald K Q5 "crossing" = true) (FR:alc K (.ref Ei)=true)
 (mh:alf K ale "has_part" = some (some (.ref Ej))) (FT:K.lookup Ej=some ⟨aeB,aey,.func (alh "has_part" "has_part" (aS pI) (aR pI) (az pI) .none aeC aeD aeE aez Q6 aeF),aeA⟩) (FU:ald K Q6 "has_part" = true) (FV:alc K (.ref Ej)=true)
 (mi:alf K ale "check_claim" = some (some (.ref Ek))) (FW:K.lookup Ek=some ⟨aeJ,aeG,.func (alh "check_claim" "check_claim" (aS pJ) (aR pJ) (az pJ) .none aeK aeL aeM aeH Q7 aeN),aeI⟩) (FX:ald K Q7 "check_claim" = true) (FY:alc K (.ref Ek)=true)
 (mj:alf K ale "stretches_of" = some (some (.ref El))) (FZ:K.lookup El=some ⟨aeR,aeO,.func (alh "stretches_of" "stretches_of" (aS pK) (aR pK) (az pK) .none aeS aeT aeU aeP Q8 aeV),aeQ⟩) (F0:ald K Q8 "stretches_of" = true) (F1:alc K (.ref El)=true)
 (mn:alf K ale "paces" = some (some (.ref Em))) (F4:K.lookup Em=some ⟨aeZ,aeW,.func (alh "paces" "paces" (aS pL) (aR pL) (az pL) .none ae0 ae1 ae2 aeX Q9 ae3),aeY⟩) (F5:ald K Q9 "paces" = true) (F6:alc K (.ref Em)=true)
 (mq:alf K ale "wanted" = some (some (.ref Eo))) (F7:K.lookup Eo=some ⟨ae7,ae4,.func (alh "wanted" "wanted" (aS pM) (aR pM) (az pM) .none ae8 ae9 afa ae5 Ra afb),ae6⟩) (Ga:ald K Ra "wanted" = true) (Gb:alc K (.ref Eo)=true)
 (mr:alf K ale "marks_of" = some (some (.ref Ep))) (Ge:K.lookup Ep=some ⟨aff,afc,.func (alh "marks_of" "marks_of" (aS pN) (aR pN) (az pN) .none afg afh afi afd Rb afj),afe⟩) (Gf:ald K Rb "marks_of" = true) (Gg:alc K (.ref Ep)=true)
 (mv:alf K ale "marks_without" = some (some (.ref Er))) (Gh:K.lookup Er=some ⟨afn,afk,.func (alh "marks_without" "marks_without" (aS pO) (aR pO) (az pO) .none afo afp afq afl Rc afr),afm⟩) (Gi:ald K Rc "marks_without" = true) (Gj:alc K (.ref Er)=true)
 (mw:alf K ale "groups_of" = some (some (.ref Es))) (Gk:K.lookup Es=some ⟨afv,afs,.func (alh "groups_of" "groups_of" (aS pP) (aR pP) (az pP) .none afw afx afy aft Rf afz),afu⟩) (Gm:ald K Rf "groups_of" = true) (Gn:alc K (.ref Es)=true)
 (mx:alf K ale "clashes" = some (some (.ref Et))) (Gq:K.lookup Et=some ⟨afD,afA,.func (alh "clashes" "clashes" (aS pQ) (aR pQ) (az pQ) .none afE afF afG afB Rg afH),afC⟩) (Gr:ald K Rg "clashes" = true) (Gs:alc K (.ref Et)=true)
 (my:alf K ale "without" = some (some (.ref Eu))) (Gu:K.lookup Eu=some ⟨afL,afI,.func (alh "without" "without" (aS pR) (aR pR) (az pR) .none afM afN afO afJ Rh afP),afK⟩) (Gv:ald K Rh "without" = true) (Gw:alc K (.ref Eu)=true)
 (mz:alf K ale "eyes_of" = some (some (.ref Ew))) (Gx:K.lookup Ew=some ⟨afT,afQ,.func (alh "eyes_of" "eyes_of" (aS pS) (aR pS) (az pS) .none afU afV afW afR Ri afX),afS⟩) (Gy:ald K Ri "eyes_of" = true) (GA:alc K (.ref Ew)=true)
 (km:alf K ale "put_aside" = some (some (.ref Ex))) (GB:K.lookup Ex=some ⟨af1,afY,.func (alh "put_aside" "put_aside" (aS pU) (aR pU) (az pU) .none af2 af3 af4 afZ Rj af5),af0⟩) (GC:ald K Rj "put_aside" = true) (GD:alc K (.ref Ex)=true)
 (mD:alf K ale "branch" = some (some (.ref Ey))) (GF:K.lookup Ey=some ⟨af9,af6,.func (alh "branch" "branch" (aS pV) (aR pV) (az pV) .none aga agb agc af7 Rk agd),af8⟩) (GG:ald K Rk "branch" = true) (GH:alc K (.ref Ey)=true)
 (jC:alf K ale "paper" = some (some (.ref Ez))) (GI:K.lookup Ez=some ⟨agh,age,.func (alh "paper" "paper" (aS pW) (aR pW) (az pW) .none agi agj agk agf Rl agl),agg⟩) (GJ:ald K Rl "paper" = true) (GK:alc K (.ref Ez)=true)
 (mF:alf K ale "ask" = some (some (.ref EA))) (GL:K.lookup EA=some ⟨agp,agm,.func (alh "ask" "ask" (aS pX) (aR pX) (az pX) .none agq agr ags agn Rm agt),ago⟩) (GN:ald K Rm "ask" = true) (GO:alc K (.ref EA)=true)
 (mH:alE K (.ref aQ) "__init__" = some (some (.ref yf))) (GP:K.lookup yf=some ⟨agx,agu,.func (alh "__init__" "Board.__init__" (aS pY) (aR pY) (az pY) .none agy agz agA agv Rn agB),agw⟩) (GQ:ald K Rn "Board.__init__" = true) (GR:alc K (.ref yf)=true)
 (mI:alE K (.ref aQ) "has_eye" = some (some (.ref yg))) (GS:K.lookup yg=some ⟨agF,agC,.func (alh "has_eye" "Board.has_eye" (aS pZ) (aR pZ) (az pZ) .none agG agH agI agD Ro agJ),agE⟩) (GU:ald K Ro "Board.has_eye" = true) (yq:alc K (.ref yg)=true)
 (mJ:alE K (.ref aQ) "has_turn" = some (some (.ref yh))) (GV:K.lookup yh=some ⟨agN,agK,.func (alh "has_turn" "Board.has_turn" (aS p8) (aR p8) (az p8) .none agO agP agQ agL Rp agR),agM⟩) (GW:ald K Rp "Board.has_turn" = true) (yr:alc K (.ref yh)=true)
 (mK:alE K (.ref aQ) "tell" = some (some (.ref yi))) (GX:K.lookup yi=some ⟨agV,agS,.func (alh "tell" "Board.tell" (aS p9) (aR p9) (az p9) .none agW agX agY agT Rq agZ),agU⟩) (GY:ald K Rq "Board.tell" = true) (yt:alc K (.ref yi)=true)
 (mL:alE K (.ref aQ) "hush" = some (some (.ref yj))) (GZ:K.lookup yj=some ⟨ag3,ag0,.func (alh "hush" "Board.hush" (aS qb) (aR qb) (az qb) .none ag4 ag5 ag6 ag1 Rr ag7),ag2⟩) (G0:ald K Rr "Board.hush" = true) (yu:alc K (.ref yj)=true)
 (mM:alE K (.ref aQ) "tellings" = some (some (.ref yk))) (G1:K.lookup yk=some ⟨ahb,ag8,.func (alh "tellings" "Board.tellings" (aS qc) (aR qc) (az qc) .none ahc ahd ahe ag9 Rt ahf),aha⟩) (G2:ald K Rt "Board.tellings" = true) (yw:alc K (.ref yk)=true)
 (mO:alE K (.ref aQ) "check_spot" = some (some (.ref ym))) (G4:K.lookup ym=some ⟨ahj,ahg,.func (alh "check_spot" "Board.check_spot" (aS qd) (aR qd) (az qd) .none ahk ahl ahm ahh Ru ahn),ahi⟩) (G5:ald K Ru "Board.check_spot" = true) (yx:alc K (.ref ym)=true)
 (mP:alE K (.ref aQ) "check_word" = some (some (.ref yn))) (G6:K.lookup yn=some ⟨ahr,aho,.func (alh "check_word" "Board.check_word" (aS qe) (aR qe) (az qe) .none ahs aht ahu ahp Rv ahv),ahq⟩) (G7:ald K Rv "Board.check_word" = true) (yy:alc K (.ref yn)=true)
 (mQ:alf K ale "_law_pick" = some (some (.ref EB))) (G8:K.lookup EB=some ⟨ahz,ahw,.func (alh "_law_pick" "_law_pick" (aS qf) (aR qf) (az qf) .none ahA ahB ahC ahx Rw ahD),ahy⟩) (G9:ald K Rw "_law_pick" = true) (Ha:alc K (.ref EB)=true)
 (mR:alf K ale "_law_wide" = some (some (.ref EC))) (Hb:K.lookup EC=some ⟨ahH,ahE,.func (alh "_law_wide" "_law_wide" (aS qg) (aR qg) (az qg) .none ahI ahJ ahK ahF Rx ahL),ahG⟩) (Hc:ald K Rx "_law_wide" = true) (Hd:alc K (.ref EC)=true)
 (mT:alf K ale "_law_shape" = some (some (.ref ED))) (He:K.lookup ED=some ⟨ahP,ahM,.func (alh "_law_shape" "_law_shape" (aS qh) (aR qh) (az qh) .none ahQ ahR ahS ahN Ry ahT),ahO⟩) (Hf:ald K Ry "_law_shape" = true) (Hg:alc K (.ref ED)=true)
 (mU:alf K ale "_law_course" = some (some (.ref EE))) (Hh:K.lookup EE=some ⟨ahX,ahU,.func (alh "_law_course" "_law_course" (aS qi) (aR qi) (az qi) .none ahY ahZ ah0 ahV Rz ah1),ahW⟩) (Hi:ald K Rz "_law_course" = true) (Hj:alc K (.ref EE)=true)
 (mV:alf K ale "_law_word" = some (some (.ref EF))) (Hk:K.lookup EF=some ⟨ah5,ah2,.func (alh "_law_word" "_law_word" (aS qj) (aR qj) (az qj) .none ah6 ah7 ah8 ah3 RA ah9),ah4⟩) (Hl:ald K RA "_law_word" = true) (Hm:alc K (.ref EF)=true)
 (mX:alf K ale "_law_words" = some (some (.ref EG))) (Hn:K.lookup EG=some ⟨aid,aia,.func (alh "_law_words" "_law_words" (aS qk) (aR qk) (az qk) .none aie aif aih aib RB aii),aic⟩) (Ho:ald K RB "_law_words" = true) (Hq:alc K (.ref EG)=true)
 (mY:alf K ale "_law_board" = some (some (.ref EH))) (Hr:K.lookup EH=some ⟨aim,aij,.func (alh "_law_board" "_law_board" (aS ql) (aR ql) (az ql) .none ain aio aip aik RC aiq),ail⟩) (Hs:ald K RC "_law_board" = true) (Ht:alc K (.ref EH)=true)
 (mZ:alf K ale "_law_claim" = some (some (.ref EI))) (Hu:K.lookup EI=some ⟨aiu,air,.func (alh "_law_claim" "_law_claim" (aS qm) (aR qm) (az qm) .none aiv aiw aix ais RD aiy),ait⟩) (Hv:ald K RD "_law_claim" = true) (Hw:alc K (.ref EI)=true)
 (m5:alf K ale "_law_in" = some (some (.ref EJ))) (Hy:K.lookup EJ=some ⟨aiC,aiz,.func (alh "_law_in" "_law_in" (aS qo) (aR qo) (az qo) .none aiD aiE aiF aiA RE aiG),aiB⟩) (Hz:ald K RE "_law_in" = true) (HC:alc K (.ref EJ)=true)
 (m6:alf K ale "_law_whole" = some (some (.ref EK))) (HD:K.lookup EK=some ⟨aiK,aiH,.func (alh "_law_whole" "_law_whole" (aS qp) (aR qp) (az qp) .none aiL aiM aiN aiI RF aiO),aiJ⟩) (HE:ald K RF "_law_whole" = true) (HF:alc K (.ref EK)=true)
 (m8:alf K ale "_law_common" = some (some (.ref EL))) (HG:K.lookup EL=some ⟨aiS,aiP,.func (alh "_law_common" "_law_common" (aS qq) (aR qq) (az qq) .none aiT aiU aiV aiQ RG aiW),aiR⟩) (HH:ald K RG "_law_common" = true) (HI:alc K (.ref EL)=true)
 (m9:alf K ale "_law_steps" = some (some (.ref EM))) (HJ:K.lookup EM=some ⟨ai0,aiX,.func (alh "_law_steps" "_law_steps" (aS qr) (aR qr) (az qr) .none ai1 ai2 ai3 aiY RH ai4),aiZ⟩) (HK:ald K RH "_law_steps" = true) (HL:alc K (.ref EM)=true)
 (nc:alf K ale "_law_goals" = some (some (.ref EN))) (HM:K.lookup EN=some ⟨ai8,ai5,.func (alh "_law_goals" "_law_goals" (aS qt) (aR qt) (az qt) .none ai9 aja ajb ai6 RI ajc),ai7⟩) (HN:ald K RI "_law_goals" = true) (HP:alc K (.ref EN)=true)
 (ng:alf K ale "_law_liars" = some (some (.ref EO))) (HQ:K.lookup EO=some ⟨ajg,ajd,.func (alh "_law_liars" "_law_liars" (aS qu) (aR qu) (az qu) .none ajh aji ajj aje RJ ajk),ajf⟩) (HR:ald K RJ "_law_liars" = true) (HS:alc K (.ref EO)=true)
 (nh:alf K ale "_law_met" = some (some (.ref ER))) (HU:K.lookup ER=some ⟨ajo,ajl,.func (alh "_law_met" "_law_met" (aS qv) (aR qv) (az qv) .none ajp ajq ajr ajm RK ajs),ajn⟩) (HV:ald K RK "_law_met" = true) (HW:alc K (.ref ER)=true)
 (ni:alf K ale "_law_walked" = some (some (.ref ES))) (HX:K.lookup ES=some ⟨ajw,ajt,.func (alh "_law_walked" "_law_walked" (aS qw) (aR qw) (az qw) .none ajx ajy ajz aju RL ajA),ajv⟩) (HY:ald K RL "_law_walked" = true) (HZ:alc K (.ref ES)=true)
 (nj:alf K ale "_law_rise" = some (some (.ref ET))) (Ia:K.lookup ET=some ⟨ajE,ajB,.func (alh "_law_rise" "_law_rise" (aS qx) (aR qx) (az qx) .none ajF ajG ajH ajC RM ajI),ajD⟩) (Ib:ald K RM "_law_rise" = true) (Ic:alc K (.ref ET)=true)
 (nk:alf K ale "_law_clash" = some (some (.ref EU))) (Ie:K.lookup EU=some ⟨ajM,ajJ,.func (alh "_law_clash" "_law_clash" (aS qy) (aR qy) (az qy) .none ajN ajO ajP ajK RN ajQ),ajL⟩) (Ig:ald K RN "_law_clash" = true) (Ih:alc K (.ref EU)=true)
 (nq:alf K ale "_law_mark" = some (some (.ref EV))) (Ii:K.lookup EV=some ⟨ajU,ajR,.func (alh "_law_mark" "_law_mark" (aS qz) (aR qz) (az qz) .none ajV ajW ajX ajS RO ajY),ajT⟩) (Ij:ald K RO "_law_mark" = true) (Ik:alc K (.ref EV)=true)
 (nr:alf K ale "_law_beyond" = some (some (.ref EW))) (Il:K.lookup EW=some ⟨aj2,ajZ,.func (alh "_law_beyond" "_law_beyond" (aS qA) (aR qA) (az qA) .none aj3 aj4 aj5 aj0 RP aj6),aj1⟩) (Im:ald K RP "_law_beyond" = true) (Io:alc K (.ref EW)=true)
 (jE:alf K ale "_law_refutes" = some (some (.ref EX))) (Ip:K.lookup EX=some ⟨aka,aj7,.func (alh "_law_refutes" "_law_refutes" (aS qB) (aR qB) (az qB) .none akb akc akd aj8 RQ ake),aj9⟩) (Iq:ald K RQ "_law_refutes" = true) (Ir:alc K (.ref EX)=true)
 (nu:alf K ale "_law_right" = some (some (.ref EY))) (Iu:K.lookup EY=some ⟨aki,akf,.func (alh "_law_right" "_law_right" (aS qC) (aR qC) (az qC) .none akj akk akl akg RS akm),akh⟩) (Iv:ald K RS "_law_right" = true) (Iw:alc K (.ref EY)=true)
 (ny:alf K ale "_law_same" = some (some (.ref EZ))) (Iy:K.lookup EZ=some ⟨akq,akn,.func (alh "_law_same" "_law_same" (aS qD) (aR qD) (az qD) .none akr aks akt ako RT aku),akp⟩) (Iz:ald K RT "_law_same" = true) (IA:alc K (.ref EZ)=true)
 (nz:alf K ale "_law_deed" = some (some (.ref E1))) (IB:K.lookup E1=some ⟨aky,akv,.func (alh "_law_deed" "_law_deed" (aS qE) (aR qE) (az qE) .none akz akA akB akw RU akC),akx⟩) (IC:ald K RU "_law_deed" = true) (ID:alc K (.ref E1)=true)
 (nA:alf K ale "_law_kept" = some (some (.ref E2))) (IE:K.lookup E2=some ⟨akG,akD,.func (alh "_law_kept" "_law_kept" (aS qF) (aR qF) (az qF) .none akH akI akJ akE RV akK),akF⟩) (IF:ald K RV "_law_kept" = true) (IG:alc K (.ref E2)=true)
 (jG:alf K ale "law" = some (some (.ref E3))) (IH:K.lookup E3=some ⟨akN,akL,.func (alh "law" "law" (aS gI) (aR gI) (az gI) .none E5 E6 E7 E4 yo E8),akM⟩) (II:ald K yo "law" = true) (IJ:alc K (.ref E3)=true)
 (IK:alf K ale "bool" = some none)
 (IL:alf K ale "enumerate" = some none)
 (IM:alf K ale "int" = some none)
 (IP:alf K ale "isinstance" = some none)
 (IQ:alf K ale "len" = some none)
 (IS:alf K ale "list" = some none)
 (IT:alf K ale "max" = some none)
 (IU:alf K ale "min" = some none)
 (IV:alf K ale "range" = some none)
 (IW:alf K ale "reversed" = some none)
 (IX:alf K ale "set" = some none)
 (IY:alf K ale "sorted" = some none)
 (IZ:alf K ale "tuple" = some none)
 (I0:alf K ale "zip" = some none)
 (I9:alf K ale "GazeError" = some (some (.ref xF)))
 (Ja:alf K ale "NoBoard" = some (some (.ref f7)))
 (Jb:alf K ale "NoTelling" = some (some (.ref eE)))
 (Jc:alf K ale "NoClaim" = some (some (.ref fF)))
 (Jd:alf K ale "Board" = some (some (.ref aQ)))
 (Je:aol K aQ Str.empty=true) (Jf:aoJ K aQ=true) (Jg:apP K aQ=true) (Jh:alE K (.ref aQ) "__setattr__" = some (some (.builtin "object.__setattr__")))
 (nC:alE K (.ref aQ) "eyes" = some none)
 (ku:alE K (.ref aQ) "turns" = some none)
 (rf:alE K (.ref aQ) "up" = some none)
 (rg:alE K (.ref aQ) "down" = some none)
 (nD:alE K (.ref aQ) "most" = some none)
 (iU:alE K (.ref aQ) "told" = some none)
 (Ji:ane K (.ref yf)=true)
 (uD:aqA K aQ=true) (Jj:alc K (.ref aQ)=true)
 (Jk:ane K (.ref yg)=true)
 (Jl:ane K (.ref yh)=true)
 (Jm:ane K (.ref yi)=true)
 (Jn:ane K (.ref yj)=true)
 (Jo:ane K (.ref yk)=true)
 (Jp:ane K (.ref ym)=true)
 (Jq:ane K (.ref yn)=true)
 (Jr:ary K f7 [.type "ValueError",.type "Exception",.type "BaseException",.type "object"] "ValueError.__new__" = true)
 (Js:an6 K f7 (.type "object")=some true)
 (Jt:an6 K f7 (.type "BaseException")=some true)
 (Ju:alE K (.ref f7) "__getattribute__" = some (some (.builtin "BaseException.__getattribute__")))
 (Jv:alE K (.ref f7) "__getattr__" = some none)
 (Jw:alE K (.ref f7) "__class__" = some (some (.builtin "object.__class__")))
 (Jx:ary K eE [.type "ValueError",.type "Exception",.type "BaseException",.type "object"] "ValueError.__new__" = true)
 (Jy:an6 K eE (.type "object")=some true)
 (Jz:an6 K eE (.type "BaseException")=some true)
 (JA:alE K (.ref eE) "__getattribute__" = some (some (.builtin "BaseException.__getattribute__")))
 (JB:alE K (.ref eE) "__getattr__" = some none)
 (JC:alE K (.ref eE) "__class__" = some (some (.builtin "object.__class__")))
 (JD:ary K fF [.type "ValueError",.type "Exception",.type "BaseException",.type "object"] "ValueError.__new__" = true)
 (JE:an6 K fF (.type "object")=some true)
 (JF:an6 K fF (.type "BaseException")=some true)
 (JG:alE K (.ref fF) "__getattribute__" = some (some (.builtin "BaseException.__getattribute__")))
 (JH:alE K (.ref fF) "__getattr__" = some none)
 (JI:alE K (.ref fF) "__class__" = some (some (.builtin "object.__class__")))
 (JJ:alf K ale "EYES_AT_MOST" = some (some (.int 7 akO)))
 (JK:alf K ale "TURNS_AT_MOST" = some (some (.int 12 akP)))
 : ∃ fd:alB,(∀ (s:ak7) (v:ak3),asl s fd ⟨[v],[]⟩ [("_law_script",v)])/\∀ base:amH,K.In base->base.Ns ale mg->aL l.prog w K mg base (aM l.prog w) 25 fa fd ["_law_script"] (ya K):=by
 have e:=hfa.symm.trans (ali X G jG)
 cases e
 have qN:=aW (st:=pe) E9 Fb Fc
 have wW:=qN.binds (ps:=["lo","hi"]) fun _ _ _ _ _ _ us hl=>match us,hl with|[_,_],_=>rfl
 have lR:=aW (st:=pf) Fd Fe Ff
 have tN:=lR.binds (ps:=["one","other"]) fun _ _ _ _ _ _ us hl=>match us,hl with|[_,_],_=>rfl
 have lT:=aW (st:=ph) Fg Fh Fi
 have tO:=lT.binds (ps:=["some"]) fun _ _ _ _ _ _ us hl=>match us,hl with|[_],_=>rfl
 have qO:=aW (st:=pj) Fj Fl Fm
 have wX:=qO.binds (ps:=["cell"]) fun _ _ _ _ _ _ us hl=>match us,hl with|[_],_=>rfl
 have qP:=aW (st:=pq) Fn Fo Fp
 have wY:=qP.binds (ps:=["one","step"]) fun _ _ _ _ _ _ us hl=>match us,hl with|[_,_],_=>rfl
 have qQ:=aW (st:=pw) Fq Fs Ft
 have wZ:=qQ.binds (ps:=["boxes","steps"]) fun _ _ _ _ _ _ us hl=>match us,hl with|[_,_],_=>rfl
 have tP:=aW (st:=pA) Fu Fv Fw
 have Bw:=tP.binds (ps:=["marks","turn"]) fun _ _ _ _ _ _ us hl=>match us,hl with|[_,_],_=>rfl
 have tQ:=aW (st:=pB) Fx Fy Fz
 have By:=tQ.binds (ps:=["steps","marks"]) fun _ _ _ _ _ _ us hl=>match us,hl with|[_,_],_=>rfl
 have tR:=aW (st:=pC) FA FC FD
 have BA:=tR.binds (ps:=["steps","marks"]) fun _ _ _ _ _ _ us hl=>match us,hl with|[_,_],_=>rfl
 have l8:=aW (st:=pE) FE FF FG
 have tS:=l8.binds (ps:=["one","other"]) fun _ _ _ _ _ _ us hl=>match us,hl with|[_,_],_=>rfl
 have qR:=aW (st:=pF) FH FI FK
 have w5:=qR.binds (ps:=["one","by"]) fun _ _ _ _ _ _ us hl=>match us,hl with|[_,_],_=>rfl
 have tT:=aW (st:=pG) FL FN FO
 have BF:=tT.binds (ps:=["steps","marks"]) fun _ _ _ _ _ _ us hl=>match us,hl with|[_,_],_=>rfl
 have tU:=aW (st:=pH) FP FQ FR
 have BH:=tU.binds (ps:=["tops","marks"]) fun _ _ _ _ _ _ us hl=>match us,hl with|[_,_],_=>rfl
 have tV:=aW (st:=pI) FT FU FV
 have BJ:=tV.binds (ps:=["board","kind","turn"]) fun _ _ _ _ _ _ us hl=>match us,hl with|[_,_,_],_=>rfl
 have qS:=aW (st:=pJ) FW FX FY
 have w6:=qS.binds (ps:=["board","claim"]) fun _ _ _ _ _ _ us hl=>match us,hl with|[_,_],_=>rfl
 have qT:=aW (st:=pK) FZ F0 F1
 have w9:=qT.binds (ps:=["claim","kind","turn"]) fun _ _ _ _ _ _ us hl=>match us,hl with|[_,_,_],_=>rfl
 have tW:=aW (st:=pL) F4 F5 F6
 have BN:=tW.binds (ps:=["board","claim"]) fun _ _ _ _ _ _ us hl=>match us,hl with|[_,_],_=>rfl
 have tX:=aW (st:=pM) F7 Ga Gb
 have BP:=tX.binds (ps:=["board","claim"]) fun _ _ _ _ _ _ us hl=>match us,hl with|[_,_],_=>rfl
 have tY:=aW (st:=pN) Ge Gf Gg
 have BR:=tY.binds (ps:=["board","eye"]) fun _ _ _ _ _ _ us hl=>match us,hl with|[_,_],_=>rfl
 have tZ:=aW (st:=pO) Gh Gi Gj
 have BV:=tZ.binds (ps:=["board","some"]) fun _ _ _ _ _ _ us hl=>match us,hl with|[_,_],_=>rfl
 have t4:=aW (st:=pP) Gk Gm Gn
 have BX:=t4.binds (ps:=["board"]) fun _ _ _ _ _ _ us hl=>match us,hl with|[_],_=>rfl
 have t6:=aW (st:=pQ) Gq Gr Gs
 have BZ:=t6.binds (ps:=["steps","groups"]) fun _ _ _ _ _ _ us hl=>match us,hl with|[_,_],_=>rfl
 have qU:=aW (st:=pR) Gu Gv Gw
 have xa:=qU.binds (ps:=["pairs","eye"]) fun _ _ _ _ _ _ us hl=>match us,hl with|[_,_],_=>rfl
 have t7:=aW (st:=pS) Gx Gy GA
 have B4:=t7.binds (ps:=["pair"]) fun _ _ _ _ _ _ us hl=>match us,hl with|[_],_=>rfl
 have mC:=aW (st:=pU) GB GC GD
 have xf:=mC.binds (ps:=["pairs","most"]) fun _ _ _ _ _ _ us hl=>match us,hl with|[_,_],_=>rfl
 have qV:=aW (st:=pV) GF GG GH
 have xg:=qV.binds (ps:=["pairs","eye","most"]) fun _ _ _ _ _ _ us hl=>match us,hl with|[_,_,_],_=>rfl
 have mE:=aW (st:=pW) GI GJ GK
 have xh:=mE.binds (ps:=["pairs","most"]) fun _ _ _ _ _ _ us hl=>match us,hl with|[_,_],_=>rfl
 have jD:=aW (st:=pX) GL GN GO
 have mG:=jD.binds (ps:=["board","claim"]) fun _ _ _ _ _ _ us hl=>match us,hl with|[_,_],_=>rfl
 have xi:=aW (st:=pY) GP GQ GR
 have B8:=xi.binds (ps:=["self","eyes","turns","up","down","most"]) fun _ _ _ _ _ _ us hl=>match us,hl with|[_,_,_,_,_,_],_=>rfl
 have xj:=aW (st:=pZ) GS GU yq
 have Ca:=xj.binds (ps:=["self","eye"]) fun _ _ _ _ _ _ us hl=>match us,hl with|[_,_],_=>rfl
 have xk:=aW (st:=p8) GV GW yr
 have qW:=xk.binds (ps:=["self","turn"]) fun _ _ _ _ _ _ us hl=>match us,hl with|[_,_],_=>rfl
 have xm:=aW (st:=p9) GX GY yt
 have xn:=xm.binds (ps:=["self","eye","turn","lo","hi"]) fun _ _ _ _ _ _ us hl=>match us,hl with|[_,_,_,_,_],_=>rfl
 have xo:=aW (st:=qb) GZ G0 yu
 have Ce:=xo.binds (ps:=["self","eye","turn"]) fun _ _ _ _ _ _ us hl=>match us,hl with|[_,_,_],_=>rfl
 have xq:=aW (st:=qc) G1 G2 yw
 have ua:=xq.binds (ps:=["self"]) fun _ _ _ _ _ _ us hl=>match us,hl with|[_],_=>rfl
 have xr:=aW (st:=qd) G4 G5 yx
 have Ci:=xr.binds (ps:=["self","eye","turn"]) fun _ _ _ _ _ _ us hl=>match us,hl with|[_,_,_],_=>rfl
 have xt:=aW (st:=qe) G6 G7 yy
 have Ck:=xt.binds (ps:=["self","eye","turn"]) fun _ _ _ _ _ _ us hl=>match us,hl with|[_,_,_],_=>rfl
 have bO:=aW (st:=qf) G8 G9 Ha
 have bX:=bO.binds (ps:=["_law_script","_law_k","_law_many"]) fun _ _ _ _ _ _ us hl=>match us,hl with|[_,_,_],_=>rfl
 have mS:=aW (st:=qg) Hb Hc Hd
 have uc:=mS.binds (ps:=["_law_script","_law_k","_law_many"]) fun _ _ _ _ _ _ us hl=>match us,hl with|[_,_,_],_=>rfl
 have ud:=aW (st:=qh) He Hf Hg
 have Cq:=ud.binds (ps:=["_law_script"]) fun _ _ _ _ _ _ us hl=>match us,hl with|[_],_=>rfl
 have ue:=aW (st:=qi) Hh Hi Hj
 have Cs:=ue.binds (ps:=["_law_script","_law_shape_here"]) fun _ _ _ _ _ _ us hl=>match us,hl with|[_,_],_=>rfl
 have mW:=aW (st:=qj) Hk Hl Hm
 have uf:=mW.binds (ps:=["_law_script","_law_k","_law_far","_law_number","_law_false"]) fun _ _ _ _ _ _ us hl=>match us,hl with|[_,_,_,_,_],_=>rfl
 have ug:=aW (st:=qk) Hn Ho Hq
 have Cw:=ug.binds (ps:=["_law_script","_law_shape_here","_law_course_here"]) fun _ _ _ _ _ _ us hl=>match us,hl with|[_,_,_],_=>rfl
 have uh:=aW (st:=ql) Hr Hs Ht
 have Cz:=uh.binds (ps:=["_law_script","_law_shape_here","_law_told"]) fun _ _ _ _ _ _ us hl=>match us,hl with|[_,_,_],_=>rfl
 have ui:=aW (st:=qm) Hu Hv Hw
 have CB:=ui.binds (ps:=["_law_script","_law_shape_here","_law_course_here"]) fun _ _ _ _ _ _ us hl=>match us,hl with|[_,_,_],_=>rfl
 have qX:=aW (st:=qo) Hy Hz HC
 have xu:=qX.binds (ps:=["_law_span","_law_number"]) fun _ _ _ _ _ _ us hl=>match us,hl with|[_,_],_=>rfl
 have ko:=aW (st:=qp) HD HE HF
 have qY:=ko.binds (ps:=["_law_found"]) fun _ _ _ _ _ _ us hl=>match us,hl with|[_],_=>rfl
 have qZ:=aW (st:=qq) HG HH HI
 have xA:=qZ.binds (ps:=["_law_lo","_law_hi","_law_claim_here","_law_kind","_law_turn"]) fun _ _ _ _ _ _ us hl=>match us,hl with|[_,_,_,_,_],_=>rfl
 have uj:=aW (st:=qr) HJ HK HL
 have CH:=uj.binds (ps:=["_law_shape_here","_law_claim_here"]) fun _ _ _ _ _ _ us hl=>match us,hl with|[_,_],_=>rfl
 have uk:=aW (st:=qt) HM HN HP
 have CJ:=uk.binds (ps:=["_law_shape_here","_law_claim_here"]) fun _ _ _ _ _ _ us hl=>match us,hl with|[_,_],_=>rfl
 have um:=aW (st:=qu) HQ HR HS
 have CL:=um.binds (ps:=["_law_told","_law_course_here"]) fun _ _ _ _ _ _ us hl=>match us,hl with|[_,_],_=>rfl
 have uq:=aW (st:=qv) HU HV HW
 have CN:=uq.binds (ps:=["_law_course_here","_law_claim_here"]) fun _ _ _ _ _ _ us hl=>match us,hl with|[_,_],_=>rfl
 have ur:=aW (st:=qw) HX HY HZ
 have CP:=ur.binds (ps:=["_law_found","_law_shape_here","_law_told","_law_claim_here"]) fun _ _ _ _ _ _ us hl=>match us,hl with|[_,_,_,_],_=>rfl
 have uu:=aW (st:=qx) Ia Ib Ic
 have CS:=uu.binds (ps:=["_law_steps_here","_law_one","_law_other"]) fun _ _ _ _ _ _ us hl=>match us,hl with|[_,_,_],_=>rfl
 have uv:=aW (st:=qy) Ie Ig Ih
 have CU:=uv.binds (ps:=["_law_steps_here","_law_one","_law_other"]) fun _ _ _ _ _ _ us hl=>match us,hl with|[_,_,_],_=>rfl
 have q8:=aW (st:=qz) Ii Ij Ik
 have xB:=q8.binds (ps:=["_law_place","_law_told","_law_goals_here","_law_aside"]) fun _ _ _ _ _ _ us hl=>match us,hl with|[_,_,_,_],_=>rfl
 have uw:=aW (st:=qA) Il Im Io
 have CY:=uw.binds (ps:=["_law_paper","_law_told","_law_known","_law_aside"]) fun _ _ _ _ _ _ us hl=>match us,hl with|[_,_,_,_],_=>rfl
 have kr:=aW (st:=qB) Ip Iq Ir
 have uy:=kr.binds (ps:=["_law_paper","_law_told","_law_known","_law_aside"]) fun _ _ _ _ _ _ us hl=>match us,hl with|[_,_,_,_],_=>rfl
 have jF:=aW (st:=qC) Iu Iv Iw
 have nv:=jF.binds (ps:=["_law_answer","_law_shape_here","_law_told","_law_claim_here"]) fun _ _ _ _ _ _ us hl=>match us,hl with|[_,_,_,_],_=>rfl
 have uA:=aW (st:=qD) Iy Iz IA
 have C2:=uA.binds (ps:=["_law_board_here","_law_told"]) fun _ _ _ _ _ _ us hl=>match us,hl with|[_,_],_=>rfl
 have uB:=aW (st:=qE) IB IC ID
 have C4:=uB.binds (ps:=["_law_script","_law_shape_here","_law_course_here","_law_told","_law_board_here"]) fun _ _ _ _ _ _ us hl=>match us,hl with|[_,_,_,_,_],_=>rfl
 have uC:=aW (st:=qF) IE IF IG
 have C6:=uC.binds (ps:=["_law_answer"]) fun _ _ _ _ _ _ us hl=>match us,hl with|[_],_=>rfl
 have xD:=aW (st:=gI) IH II IJ
 have O8:=xD.binds (ps:=["_law_script"]) fun _ _ _ _ _ _ us hl=>match us,hl with|[_],_=>rfl
 have T:∃ T:Tx K mg,T.jG=fa/\T.xC=alh "law" "law" (aS gI) (aR gI) (az gI) .none E5 E6 E7 E4 yo E8:=⟨⟨_,_,qN,ali X G lP,wW,_,_,lR,ali X G lQ,tN,_,_,lT,ali X G lS,tO,_,_,qO,ali X G lU,wX,_,_,qP,ali X G lV,wY,_,_,qQ,ali X G lW,wZ,_,_,tP,ali X G lX,Bw,_,_,tQ,ali X G lY,By,_,_,tR,ali X G lZ,BA,_,_,l8,ali X G l6,tS,_,_,qR,ali X G md,w5,_,_,tT,ali X G me,BF,_,_,tU,ali X G mf,BH,_,_,tV,ali X G mh,BJ,_,_,qS,ali X G mi,w6,_,_,qT,ali X G mj,w9,_,_,tW,ali X G mn,BN,_,_,tX,ali X G mq,BP,_,_,tY,ali X G mr,BR,_,_,tZ,ali X G mv,BV,_,_,t4,ali X G mw,BX,_,_,t6,ali X G mx,BZ,_,_,qU,ali X G my,xa,_,_,t7,ali X G mz,B4,_,_,mC,ali X G km,xf,_,_,qV,ali X G mD,xg,_,_,mE,ali X G jC,xh,_,_,jD,ali X G mF,mG,_,_,xi,B8,_,_,xj,Ca,_,_,xk,qW,_,_,xm,xn,_,_,xo,Ce,_,_,xq,ua,_,_,xr,Ci,_,_,xt,Ck,_,_,bO,ali X G mQ,bX,_,_,mS,ali X G mR,uc,_,_,ud,ali X G mT,Cq,_,_,ue,ali X G mU,Cs,_,_,mW,ali X G mV,uf,_,_,ug,ali X G mX,Cw,_,_,uh,ali X G mY,Cz,_,_,ui,ali X G mZ,CB,_,_,qX,ali X G m5,xu,_,_,ko,ali X G m6,qY,_,_,qZ,ali X G m8,xA,_,_,uj,ali X G m9,CH,_,_,uk,ali X G nc,CJ,_,_,um,ali X G ng,CL,_,_,uq,ali X G nh,CN,_,_,ur,ali X G ni,CP,_,_,uu,ali X G nj,CS,_,_,uv,ali X G nk,CU,_,_,q8,ali X G nq,xB,_,_,uw,ali X G nr,CY,_,_,kr,ali X G jE,uy,_,_,jF,ali X G nu,nv,_,_,uA,ali X G ny,C2,_,_,uB,ali X G nz,C4,_,_,uC,ali X G nA,C6,_,_,xD,ali X G jG,O8,al2 X G IK,al2 X G IL,al2 X G IM,al2 X G IP,al2 X G IQ,al2 X G IS,al2 X G IT,al2 X G IU,al2 X G IV,al2 X G IW,al2 X G IX,al2 X G IY,al2 X G IZ,al2 X G I0,xF,ali X G I9,f7,ali X G Ja,eE,ali X G Jb,fF,ali X G Jc,aQ,ali X G Jd,⟨Je,Jf,Jg,Jh⟩,nC,ku,rf,rg,nD,iU,⟨uD,mH,Ji,Jj⟩,⟨mI,Jk,yq⟩,⟨mJ,Jl,yr⟩,⟨mK,Jm,yt⟩,⟨mL,Jn,yu⟩,⟨mM,Jo,yw⟩,⟨mO,Jp,yx⟩,⟨mP,Jq,yy⟩,⟨Jr,Js,Jt,Ju,Jv,Jw⟩,⟨Jx,Jy,Jz,JA,JB,JC⟩,⟨JD,JE,JF,JG,JH,JI⟩,⟨_,ali X G JJ⟩,⟨_,ali X G JK⟩⟩,rfl,rfl⟩
 obtain⟨T,e1,e2⟩:=T
 refine⟨alh "law" "law" (aS gI) (aR gI) (az gI) .none E5 E6 E7 E4 yo E8,fun s v=>.of_eq rfl,fun base _ _=>?_⟩
 rw[<- e1,<- e2]
 exact acM T
theorem walk {l:aqH} {q:alr} {loose:List Str} {XP:(Str->Option ak3)->amH->Prop} {YP:alS->amH->Prop} {d:DefRec} {K:Params->ak2} (hn:l.most=some 63) (hdf:d.params.defaults=[])
 (hY:∀ (w:alS) (h:amH),YP w h->(K w.params).In h)
 (F:∀ (w:alS) (mg:Str->Option ak3) (fa:ala) (h:amH),(K w.params).In h->h.Ns ale mg->mg d.name=some (.ref fa) ->
   ∃ fd:alB,(∀ (s:ak7) (u:ak3),asl s fd ⟨[u],[]⟩ [("_law_script",u)])/\∀ base:amH,(K w.params).In base->base.Ns ale mg->aL l.prog w (K w.params) mg base (aM l.prog w) 25 fa fd ["_law_script"] (ya (K w.params))) :
 as1 q loose XP YP l.row.toRowW d [] (fun f vs=>PySem.call f vs) :=
 Gz.VZ (k:=25) (x := "_law_script") (CX:=fun w=>aM l.prog w) (sp:=fun w=>ya (K w.params)) hn hdf ⟨rfl,by decide,by decide⟩ hY F (fun _ _ a ns hl hS=>⟨a,ns,rfl,hS,hl,fun _=>rfl⟩) fun _ _ _ _ _ z=>UH z
end Be
namespace PySem.W.Fast
theorem tw13972524113570347507:True:=⟨⟩
theorem tw5400560004502598197:True:=⟨⟩
theorem tw16741859386895903986:True:=⟨⟩
theorem tw12757246109025425518:True:=⟨⟩
theorem tw7309596724539685091:True:=⟨⟩
theorem tw14923639229945551340:True:=⟨⟩
theorem tw8060643070928466740:True:=⟨⟩
theorem tw13089418974043471102:True:=⟨⟩
theorem tw259048480839747900:True:=⟨⟩
theorem tw10911712967838142784:True:=⟨⟩
theorem tw7185585804272665199:True:=⟨⟩
theorem tw15519876773726038920:True:=⟨⟩
theorem tw18247403018189059812:True:=⟨⟩
theorem tw15672018351080396045:True:=⟨⟩
theorem tw11067881498376195193:True:=⟨⟩
theorem tw8049947392649976452:True:=⟨⟩
theorem tw1658900639883213662:True:=⟨⟩
theorem tw12236588173578722627:True:=⟨⟩
theorem tw251510386254238656:True:=⟨⟩
theorem tw18024133426967384883:True:=⟨⟩
theorem tw1852944304661764177:True:=⟨⟩
theorem tw3220590391937782276:True:=⟨⟩
theorem tw17257731048067961403:True:=⟨⟩
theorem tw12312273996625110758:True:=⟨⟩
theorem tw8475962224439573551:True:=⟨⟩
theorem tw7420136215453023932:True:=⟨⟩
theorem tw16936884831384653101:True:=⟨⟩
theorem tw8402376729671707159:True:=⟨⟩
theorem tw14959265773473496164:True:=⟨⟩
theorem tw12025174251428619361:True:=⟨⟩
theorem tw8855906425480396172:True:=⟨⟩
theorem tw9273627601271805729:True:=⟨⟩
theorem tw15864831355982272675:True:=⟨⟩
theorem tw18285119585209345453:True:=⟨⟩
theorem tw9223892500316995886:True:=⟨⟩
theorem tw15075929508309086676:True:=⟨⟩
theorem tw235822010393458736:True:=⟨⟩
theorem tw17169168167261387974:True:=⟨⟩
theorem tw17224105092613077356:True:=⟨⟩
theorem tw5822794408065667606:True:=⟨⟩
theorem tw13088437058550239852:True:=⟨⟩
theorem tw15138045309628911367:True:=⟨⟩
theorem tw13840045086260449738:True:=⟨⟩
theorem tw16565944318524713300:True:=⟨⟩
theorem tw2847374376239073954:True:=⟨⟩
theorem tw7117886598365690997:True:=⟨⟩
theorem tw5354473133841664324:True:=⟨⟩
theorem tw10768614961324756152:True:=⟨⟩
theorem tw132779152651681761:True:=⟨⟩
theorem tw1694796710566403929:True:=⟨⟩
theorem tw8657642384339317146:True:=⟨⟩
theorem tw6969114634516615199:True:=⟨⟩
theorem tw12373738469145347591:True:=⟨⟩
theorem tw3529806524515518526:True:=⟨⟩
theorem tw16615404539885601853:True:=⟨⟩
theorem tw7414568525933541762:True:=⟨⟩
theorem tw7563188545471250024:True:=⟨⟩
theorem tw4897127547601429262:True:=⟨⟩
theorem tw10055274504726262602:True:=⟨⟩
theorem tw12255482919240046387:True:=⟨⟩
theorem tw15670373337239938481:True:=⟨⟩
theorem tw10028772650510316253:True:=⟨⟩
theorem tw3788842240627266947:True:=⟨⟩
theorem tw13665925896935365185:True:=⟨⟩
theorem tw10739173788452607672:True:=⟨⟩
theorem tw4341109115477209270:True:=⟨⟩
theorem tw4477380776210866560:True:=⟨⟩
theorem tw7997384096152368050:True:=⟨⟩
theorem tw12576329668770339633:True:=⟨⟩
theorem tw6799185646031656077:True:=⟨⟩
theorem tw5534110517530860306:True:=⟨⟩
theorem tw14456635859867939089:True:=⟨⟩
theorem tw9624207959153436189:True:=⟨⟩
theorem tw17313061141622889484:True:=⟨⟩
theorem tw3313139152912627696:True:=⟨⟩
theorem tw14900596610851963250:True:=⟨⟩
theorem tw9471203302554168714:True:=⟨⟩
theorem tw14999739425255810640:True:=⟨⟩
theorem tw6098885166737796277:True:=⟨⟩
theorem tw6938159353814867489:True:=⟨⟩
theorem tw16346688619795482116:True:=⟨⟩
theorem tw7977660240934009489:True:=⟨⟩
theorem tw15810680215502335308:True:=⟨⟩
theorem tw14950506727458264768:True:=⟨⟩
theorem tw11765036762009546052:True:=⟨⟩
theorem tw6293148936300497434:True:=⟨⟩
theorem tw4963568259556192080:True:=⟨⟩
theorem tw16257464331789149492:True:=⟨⟩
theorem tw10279465640410755384:True:=⟨⟩
theorem tw4085343103960693599:True:=⟨⟩
theorem tw2388081132266525303:True:=⟨⟩
theorem tw5814378626083101571:True:=⟨⟩
theorem tw15629910107499442384:True:=⟨⟩
theorem tw9063889729739953198:True:=⟨⟩
theorem tw14953356038816328725:True:=⟨⟩
theorem tw6022431039652344523:True:=⟨⟩
theorem tw457572554371149853:True:=⟨⟩
theorem tw4039800583998140201:True:=⟨⟩
theorem tw4026494920815194813:True:=⟨⟩
theorem tw4775050998404381447:True:=⟨⟩
theorem tw17634684805659940940:True:=⟨⟩
theorem tw11021296827574325944:True:=⟨⟩
theorem tw84025388529439242:True:=⟨⟩
theorem tw12020372853177601867:True:=⟨⟩
theorem tw6835002508414020526:True:=⟨⟩
theorem tw7507923037629176727:True:=⟨⟩
theorem tw4515743585289904874:True:=⟨⟩
theorem tw11115065811171246015:True:=⟨⟩
theorem tw12041909138292070432:True:=⟨⟩
theorem tw9885947381417898271:True:=⟨⟩
theorem tw40564692203500327:True:=⟨⟩
theorem tw93633124261895401:True:=⟨⟩
theorem tw6211489611142716882:True:=⟨⟩
theorem tw12061753329702177361:True:=⟨⟩
theorem tw13830420981296488629:True:=⟨⟩
theorem tw12023377224270935476:True:=⟨⟩
theorem tw16201902540938681289:True:=⟨⟩
theorem tw10274492563195082897:True:=⟨⟩
theorem tw276965207210312488:True:=⟨⟩
theorem tw689720549268168279:True:=⟨⟩
theorem tw6239711676988203757:True:=⟨⟩
theorem tw7969909692760744234:True:=⟨⟩
theorem tw874937255594104903:True:=⟨⟩
theorem tw16533935997088542409:True:=⟨⟩
theorem tw10142109444455761803:True:=⟨⟩
theorem tw10144092464683495742:True:=⟨⟩
theorem tw9718411493096733912:True:=⟨⟩
theorem tw4928305560660000688:True:=⟨⟩
theorem tw7329555354887294600:True:=⟨⟩
theorem tw6928327874554096693:True:=⟨⟩
theorem tw10902095250273937193:True:=⟨⟩
theorem tw11343671470238313664:True:=⟨⟩
theorem tw14910918372489076557:True:=⟨⟩
theorem tw5262764949521677199:True:=⟨⟩
theorem tw2981923714108401322:True:=⟨⟩
theorem tw4974014835246737407:True:=⟨⟩
theorem tw5021650058278894761:True:=⟨⟩
theorem tw8549409216964570905:True:=⟨⟩
theorem tw9634473835763476608:True:=⟨⟩
theorem tw4644754184999676220:True:=⟨⟩
theorem tw18397453325609905905:True:=⟨⟩
theorem tw12048522843710955991:True:=⟨⟩
theorem tw2525226665736622184:True:=⟨⟩
theorem tw5977246478594807258:True:=⟨⟩
theorem tw3780745754326116978:True:=⟨⟩
theorem tw1274111882512541116:True:=⟨⟩
theorem tw15873455417671171667:True:=⟨⟩
theorem tw6223734618323540356:True:=⟨⟩
theorem tw3530388068453563642:True:=⟨⟩
theorem tw14155756277399874792:True:=⟨⟩
theorem tw6278895082029619925:True:=⟨⟩
theorem tw3579060728496347112:True:=⟨⟩
theorem tw8773105054158231906:True:=⟨⟩
theorem tw5073434179088027488:True:=⟨⟩
theorem tw11879516617619147099:True:=⟨⟩
theorem tw5243681343895732111:True:=⟨⟩
theorem tw871127296807720681:True:=⟨⟩
theorem tw10684797060804477507:True:=⟨⟩
theorem tw6536753372456242273:True:=⟨⟩
theorem tw9235454625245223051:True:=⟨⟩
theorem tw6703769499977352618:True:=⟨⟩
theorem tw761658091964057157:True:=⟨⟩
theorem tw16687051876702942401:True:=⟨⟩
theorem tw10824699129030424376:True:=⟨⟩
theorem tw1655103513797834398:True:=⟨⟩
theorem tw15648453642546463831:True:=⟨⟩
theorem tw6365684400359130011:True:=⟨⟩
theorem tw8039806084254723754:True:=⟨⟩
theorem tw7484949873184857985:True:=⟨⟩
theorem tw14087345215982494286:True:=⟨⟩
theorem tw9939227468389576095:True:=⟨⟩
theorem tw16724283562724656578:True:=⟨⟩
theorem tw4965859424325010969:True:=⟨⟩
theorem tw1011541641958313311:True:=⟨⟩
theorem tw14478485007522795720:True:=⟨⟩
theorem tw13970441191883060740:True:=⟨⟩
theorem tw11628654553291598021:True:=⟨⟩
theorem tw11705705220379400905:True:=⟨⟩
theorem tw14887207098092286664:True:=⟨⟩
theorem tw7864861556672117542:True:=⟨⟩
theorem tw1580830402802792321:True:=⟨⟩
theorem tw10498923198319728775:True:=⟨⟩
theorem tw12976150899788858367:True:=⟨⟩
theorem tw2584289492138651419:True:=⟨⟩
theorem tw2259347935393385544:True:=⟨⟩
theorem tw2033648506925026743:True:=⟨⟩
theorem tw13052263036207045122:True:=⟨⟩
theorem tw5122708292488123765:True:=⟨⟩
theorem tw3248549820935902354:True:=⟨⟩
theorem tw1773434240589998960:True:=⟨⟩
theorem tw3632938517600790935:True:=⟨⟩
theorem tw13379380565586861193:True:=⟨⟩
theorem tw6331970948762955264:True:=⟨⟩
theorem tw13566213523457745094:True:=⟨⟩
theorem tw2758318467778340415:True:=⟨⟩
theorem tw2004373878996017153:True:=⟨⟩
theorem tw4185307071034110688:True:=⟨⟩
theorem tw11139701754558140666:True:=⟨⟩
theorem tw3600740422333176448:True:=⟨⟩
theorem tw9220400807983934912:True:=⟨⟩
theorem tw17676799802351459168:True:=⟨⟩
theorem tw90101131094312627:True:=⟨⟩
theorem tw6670346853444394800:True:=⟨⟩
theorem tw15153328737374432279:True:=⟨⟩
theorem tw6690357736391972185:True:=⟨⟩
theorem tw11387371596162814892:True:=⟨⟩
theorem tw6837159244282852:True:=⟨⟩
theorem tw6952630645998718216:True:=⟨⟩
theorem tw10891795113638248374:True:=⟨⟩
theorem tw8469935172238240035:True:=⟨⟩
theorem tw6221158397131382000:True:=⟨⟩
theorem tw895066465039085877:True:=⟨⟩
theorem tw11645573548018927286:True:=⟨⟩
theorem tw17540949601535586225:True:=⟨⟩
theorem tw8930519302838829626:True:=⟨⟩
theorem tw3439719730663801884:True:=⟨⟩
theorem tw15033663200161625098:True:=⟨⟩
theorem tw10066336364719008056:True:=⟨⟩
theorem tw12063454662333247687:True:=⟨⟩
theorem tw16124487305076222197:True:=⟨⟩
theorem tw13208384464203170644:True:=⟨⟩
theorem tw7044024359804916777:True:=⟨⟩
theorem tw6900193351287771153:True:=⟨⟩
theorem tw6694848092259855255:True:=⟨⟩
theorem tw7272037648805702397:True:=⟨⟩
theorem tw2965790176255402451:True:=⟨⟩
theorem tw742037980904130186:True:=⟨⟩
theorem tw6652644812472360118:True:=⟨⟩
theorem tw2328788469054597883:True:=⟨⟩
theorem tw15563713691320983591:True:=⟨⟩
theorem tw7953299245213871633:True:=⟨⟩
theorem tw12956902125083634486:True:=⟨⟩
theorem tw8112466680424306721:True:=⟨⟩
theorem tw16646253955217069799:True:=⟨⟩
theorem tw812926301028391164:True:=⟨⟩
theorem tw4819109986042871974:True:=⟨⟩
theorem tw16847002865713217353:True:=⟨⟩
theorem tw17768553426659459864:True:=⟨⟩
theorem tw18232669901381647934:True:=⟨⟩
theorem tw7024625953689362714:True:=⟨⟩
theorem tw3046330042818901575:True:=⟨⟩
theorem tw16474840499483360577:True:=⟨⟩
theorem tw8398319807790029140:True:=⟨⟩
theorem tw5511048615509280200:True:=⟨⟩
theorem tw2649164336486525312:True:=⟨⟩
theorem tw5154929142507601849:True:=⟨⟩
theorem tw3496304965313404418:True:=⟨⟩
theorem tw5799730181925804430:True:=⟨⟩
theorem tw13858546078801517208:True:=⟨⟩
theorem tw12560748048010575169:True:=⟨⟩
theorem tw1506541421467143733:True:=⟨⟩
theorem tw12491871826849813750:True:=⟨⟩
theorem tw464456630049816634:True:=⟨⟩
theorem tw17959684105072865507:True:=⟨⟩
theorem tw9448363682261883634:True:=⟨⟩
theorem tw1395787388047370735:True:=⟨⟩
theorem tw11599270180800088844:True:=⟨⟩
theorem tw1272098779415685497:True:=⟨⟩
theorem tw12707742725109894578:True:=⟨⟩
theorem tw413220138065503163:True:=⟨⟩
theorem tw17813191012048298704:True:=⟨⟩
theorem tw85509433625274351:True:=⟨⟩
theorem tw8468389158520213282:True:=⟨⟩
theorem tw14108815281420733381:True:=⟨⟩
theorem tw782626935457512266:True:=⟨⟩
theorem tw12682871062244336769:True:=⟨⟩
theorem tw6448033832650392122:True:=⟨⟩
theorem tw15869411511293534123:True:=⟨⟩
theorem tw14511695269199775957:True:=⟨⟩
theorem tw14825987427096486086:True:=⟨⟩
theorem tw18331363718807989707:True:=⟨⟩
theorem tw13758732453920189695:True:=⟨⟩
theorem tw3131037776059534766:True:=⟨⟩
theorem tw4334967697565417344:True:=⟨⟩
theorem tw17145457614962416790:True:=⟨⟩
theorem tw559473253947773678:True:=⟨⟩
theorem tw2689672865351146225:True:=⟨⟩
theorem tw899511663347155129:True:=⟨⟩
theorem tw13702178963361789807:True:=⟨⟩
theorem tw8844878814752246191:True:=⟨⟩
theorem tw4236020398996859339:True:=⟨⟩
theorem tw9851054068537626543:True:=⟨⟩
theorem tw15460007560558348304:True:=⟨⟩
theorem tw17907800926404861675:True:=⟨⟩
theorem tw16158426705779953052:True:=⟨⟩
theorem tw10585145628391856754:True:=⟨⟩
theorem tw17303119326663747354:True:=⟨⟩
theorem tw16302175130679762955:True:=⟨⟩
theorem tw3785236510542354809:True:=⟨⟩
theorem tw3931233503890075025:True:=⟨⟩
theorem tw11740584448727297064:True:=⟨⟩
theorem tw8445000120252157715:True:=⟨⟩
theorem tw1278938708235833976:True:=⟨⟩
theorem tw5472818789503552053:True:=⟨⟩
theorem tw611384660992215796:True:=⟨⟩
theorem tw12097376548290072718:True:=⟨⟩
theorem tw16447685639984606057:True:=⟨⟩
theorem tw16873134161983737945:True:=⟨⟩
theorem tw1133219741903556942:True:=⟨⟩
theorem tw17988397702033221221:True:=⟨⟩
end PySem.W.Fast
open PySem PySem.W PyProof.Rows
set_option maxRecDepth 100000 in
set_option maxHeartbeats 0 in
theorem PySem.Challenge.cw_gaze_k45_whole_asked_about_a_claim_holds : PySem.Challenge.rw_gaze_k45_whole_asked_about_a_claim.Holds := by
 w_on;o_law;k_head;(case hw=>w_witness2)
 k_fill
 refine Be.walk (l:=PySem.Challenge.rw_gaze_k45_whole_asked_about_a_claim) rfl rfl (fun w h Y=>PySem.W.kIn_of Y) ?F
 case F =>
  intro w mg fa h KX G hmg
  refine' Be.acO KX G hmg ?lP ?E9 ?Fb ?Fc ?lQ ?Fd ?Fe ?Ff ?lS ?Fg ?Fh ?Fi ?lU ?Fj ?Fl ?Fm ?lV ?Fn ?Fo ?Fp ?lW ?Fq ?Fs ?Ft ?lX ?Fu ?Fv ?Fw ?lY ?Fx ?Fy ?Fz ?lZ ?FA ?FC ?FD ?l6 ?FE ?FF ?FG ?md ?FH ?FI ?FK ?me ?FL ?FN ?FO ?mf ?FP ?FQ ?FR ?mh ?FT ?FU ?FV ?mi ?FW ?FX ?FY ?mj ?FZ ?F0 ?F1 ?mn ?F4 ?F5 ?F6 ?mq ?F7 ?Ga ?Gb ?mr ?Ge ?Gf ?Gg ?mv ?Gh ?Gi ?Gj ?mw ?Gk ?Gm ?Gn ?mx ?Gq ?Gr ?Gs ?my ?Gu ?Gv ?Gw ?mz ?Gx ?Gy ?GA ?km ?GB ?GC ?GD ?mD ?GF ?GG ?GH ?jC ?GI ?GJ ?GK ?mF ?GL ?GN ?GO ?mH ?GP ?GQ ?GR ?mI ?GS ?GU ?yq ?mJ ?GV ?GW ?yr ?mK ?GX ?GY ?yt ?mL ?GZ ?G0 ?yu ?mM ?G1 ?G2 ?yw ?mO ?G4 ?G5 ?yx ?mP ?G6 ?G7 ?yy ?mQ ?G8 ?G9 ?Ha ?mR ?Hb ?Hc ?Hd ?mT ?He ?Hf ?Hg ?mU ?Hh ?Hi ?Hj ?mV ?Hk ?Hl ?Hm ?mX ?Hn ?Ho ?Hq ?mY ?Hr ?Hs ?Ht ?mZ ?Hu ?Hv ?Hw ?m5 ?Hy ?Hz ?HC ?m6 ?HD ?HE ?HF ?m8 ?HG ?HH ?HI ?m9 ?HJ ?HK ?HL ?nc ?HM ?HN ?HP ?ng ?HQ ?HR ?HS ?nh ?HU ?HV ?HW ?ni ?HX ?HY ?HZ ?nj ?Ia ?Ib ?Ic ?nk ?Ie ?Ig ?Ih ?nq ?Ii ?Ij ?Ik ?nr ?Il ?Im ?Io ?jE ?Ip ?Iq ?Ir ?nu ?Iu ?Iv ?Iw ?ny ?Iy ?Iz ?IA ?nz ?IB ?IC ?ID ?nA ?IE ?IF ?IG ?jG ?IH ?II ?IJ ?IK ?IL ?IM ?IP ?IQ ?IS ?IT ?IU ?IV ?IW ?IX ?IY ?IZ ?I0 ?I9 ?Ja ?Jb ?Jc ?Jd ?Je ?Jf ?Jg ?Jh ?nC ?ku ?rf ?rg ?nD ?iU ?Ji ?uD ?Jj ?Jk ?Jl ?Jm ?Jn ?Jo ?Jp ?Jq ?Jr ?Js ?Jt ?Ju ?Jv ?Jw ?Jx ?Jy ?Jz ?JA ?JB ?JC ?JD ?JE ?JF ?JG ?JH ?JI ?JJ ?JK
  (case I9|Ja|Jb|Jc|Jd|lP|E9|Fb|Fc|lQ|Fd|Fe|Ff|lS|Fg|Fh|Fi|lU|Fj|Fl|Fm|lV|Fn|Fo|Fp|lW|Fq|Fs|Ft|lX|Fu|Fv|Fw|lY|Fx|Fy|Fz|lZ|FA|FC|FD|l6|FE|FF|FG|md|FH|FI|FK|me|FL|FN|FO|mf|FP|FQ|FR|mh|FT|FU|FV|mi|FW|FX|FY|mj|FZ|F0|F1|mn|F4|F5|F6|mq|F7|Ga|Gb|mr|Ge|Gf|Gg|mv|Gh|Gi|Gj|mw|Gk|Gm|Gn|mx|Gq|Gr|Gs|my|Gu|Gv|Gw|mz|Gx|Gy|GA|km|GB|GC|GD|mD|GF|GG|GH|jC|GI|GJ|GK|mF|GL|GN|GO|mH|GP|GQ|GR|mI|GS|GU|yq|mJ|GV|GW|yr|mK|GX|GY|yt|mL|GZ|G0|yu|mM|G1|G2|yw|mO|G4|G5|yx|mP|G6|G7|yy|mQ|G8|G9|Ha|mR|Hb|Hc|Hd|mT|He|Hf|Hg|mU|Hh|Hi|Hj|mV|Hk|Hl|Hm|mX|Hn|Ho|Hq|mY|Hr|Hs|Ht|mZ|Hu|Hv|Hw|m5|Hy|Hz|HC|m6|HD|HE|HF|m8|HG|HH|HI|m9|HJ|HK|HL|nc|HM|HN|HP|ng|HQ|HR|HS|nh|HU|HV|HW|ni|HX|HY|HZ|nj|Ia|Ib|Ic|nk|Ie|Ig|Ih|nq|Ii|Ij|Ik|nr|Il|Im|Io|jE|Ip|Iq|Ir|nu|Iu|Iv|Iw|ny|Iy|Iz|IA|nz|IB|IC|ID|nA|IE|IF|IG|jG|IH|II|IJ|IK|IL|IM|IP|IQ|IS|IT|IU|IV|IW|IX|IY|IZ|I0|Je|Jf|Jg|Jh|nC|ku|rf|rg|nD|iU|Ji|uD|Jj|Jk|Jl|Jm|Jn|Jo|Jp|Jq=>k_is)
  (case Jr=>k_exc)
  (case Js|Jt|Ju|Jv|Jw=>k_is)
  (case Jx=>k_exc)
  (case Jy|Jz|JA|JB|JC=>k_is)
  (case JD=>k_exc)
  (case JE|JF|JG|JH|JI|JJ|JK=>k_is)
#print axioms PySem.Challenge.cw_gaze_k45_whole_asked_about_a_claim_holds
