import PyProof.Rows.All
import Wide.All
import OpenK.AllK
import Wide.FinOn
import Lean
import PyProof.EqAt
import PyProof.EqKinds
import PyProof.TupleCall
import KE.KSortAsk
import KE.KSortTup
import KE.KRevIter
import KE.LcSums
import KE.KDictSum
import KE.KDictList
import PyProof.AttrMissHeap
import PySem.Challenge.RW_gaze_k44_papers_without_words
set_option Elab.async false
set_option linter.all false
set_option maxRecDepth 100000
set_option maxHeartbeats 4000000
set_option exponentiation.threshold 2000
namespace L2
open PySem PySem.Spec PyProof.Rows
noncomputable abbrev Key := Sum Int Str
noncomputable def FH : Key -> Value -> Bool
 | .inl k, v => Value.isInt k v
 | .inr x, v => Value.isStrOf x v
noncomputable def LZ (w : World) : Key -> Int
 | .inl k => hashInt k
 | .inr x => hashStr w x
theorem gk : ∀ {k : Key} {v : Value}, FH k v = true -> (∃ i t, k = Sum.inl i /\ v = Value.int i t) ∨ (∃ x t, k = Sum.inr x /\ v = Value.str x t)
 | .inl i, v, h => by
  obtain ⟨t, e⟩ := Value.isInt_shape (k := i) (v := v) h
  exact .inl ⟨i, t, rfl, e⟩
 | .inr x, v, h => by
  obtain ⟨t, e⟩ := Value.isStrOf_shape (x := x) (v := v) h
  exact .inr ⟨x, t, rfl, e⟩
theorem L6 (a b : Int) : decide ((Sum.inl a : Key) = Sum.inl b) = (a == b) := by
 by_cases e : a = b
 ·subst e; simp
 ·have h : ¬ (Sum.inl a : Key) = Sum.inl b := fun q => e (Sum.inl.inj q)
  rw [decide_eq_false h]
  exact (beq_eq_false_iff_ne.mpr e).symm
theorem L8 (a b : Str) : decide ((Sum.inr a : Key) = Sum.inr b) = decide (a = b) := by
 by_cases e : a = b
 ·subst e; simp
 ·have h : ¬ (Sum.inr a : Key) = Sum.inr b := fun q => e (Sum.inr.inj q)
  rw [decide_eq_false h, decide_eq_false e]
theorem L9 (a : Int) (b : Str) : decide ((Sum.inl a : Key) = Sum.inr b) = false := decide_eq_false (fun q => nomatch q)
theorem Ma (a : Str) (b : Int) : decide ((Sum.inr a : Key) = Sum.inl b) = false := decide_eq_false (fun q => nomatch q)
noncomputable def gO (prog : Program) (w : World) : PySem.KeyKind prog w Key where
 is := FH
 hash := LZ w
 inj := fun v a b ha hb => by
  rcases gk ha with ⟨i, t, rfl, rfl⟩ | ⟨x, t, rfl, rfl⟩
  ·rcases gk hb with ⟨j, u, rfl, e⟩ | ⟨y, u, rfl, e⟩
   ·injection e with e1 _; rw [e1]
   ·exact nomatch e
  ·rcases gk hb with ⟨j, u, rfl, e⟩ | ⟨y, u, rfl, e⟩
   ·exact nomatch e
   ·injection e with e1 _; rw [e1]
 byValue := fun k v h => by
  rcases gk h with ⟨i, t, rfl, rfl⟩ | ⟨x, t, rfl, rfl⟩ <;> rfl
 pyHash := fun hv h => by
  rcases gk hv with ⟨i, t, rfl, rfl⟩ | ⟨x, t, rfl, rfl⟩
  ·exact wpAny_pyHash_int h
  ·exact wpAny_pyHash_str h
 eqBool := fun hu hv h => by
  rcases gk hu with ⟨i, t, rfl, rfl⟩ | ⟨x, t, rfl, rfl⟩
  ·rcases gk hv with ⟨j, u, rfl, rfl⟩ | ⟨y, u, rfl, rfl⟩
   ·rw [L6] at h; exact wpAny_eqBool_int h
   ·rw [L9] at h; exact SeqAt.EqAt.int_str i t y u _ _ _ _ h
  ·rcases gk hv with ⟨j, u, rfl, rfl⟩ | ⟨y, u, rfl, rfl⟩
   ·rw [Ma] at h; exact SeqAt.EqAt.str_int x t j u _ _ _ _ h
   ·rw [L8] at h; exact wpAny_eqBool_str h
 «strs» := fun k x t v h => by
  rcases gk h with ⟨i, u, rfl, e⟩ | ⟨y, u, rfl, e⟩
  ·exact nomatch e
  ·injection e with e1 _
   subst e1
   cases v <;> rfl
end L2
namespace L2
open PySem PySem.Spec PyProof.Rows
inductive V where
 | non | bl (b : Bool) | int (i : Int) | str (x : Str) | byt (b : Array UInt8) | flt (b : UInt64) | ref (a : Addr) | ty (n : String)
 deriving DecidableEq
noncomputable def RelV : V -> Value -> Prop
 | .non, u => u = Value.none
 | .bl b, u => u = Value.bool b
 | .int i, u => ∃ t, u = Value.int i t
 | .str x, u => ∃ t, u = Value.str x t
 | .byt b, u => ∃ t, u = Value.bytes b t
 | .flt b, u => ∃ t, u = Value.float b t
 | .ref a, u => u = Value.ref a
 | .ty n, u => u = Value.type n
noncomputable abbrev Vals : List V -> List Value -> Prop := Paired RelV
theorem Vals.length {xs : List V} {us : List Value} (r : Vals xs us) : xs.length = us.length := Paired.length r
theorem Vals.get : ∀ {xs : List V} {us : List Value} {i : Nat} {x : V}, Vals xs us -> xs[i]? = some x -> ∃ u, us[i]? = some u /\ RelV x u
 | _, _, _, _, .nil, e => by simp at e
 | _, _, 0, _, .cons r _, e => by simp at e; subst e; exact ⟨_, rfl, r⟩
 | _, _, i + 1, x, .cons _ t, e => by
  obtain ⟨u, h1, h2⟩ := Vals.get (i := i) (x := x) t (by simpa using e)
  exact ⟨u, by simpa using h1, h2⟩
theorem Vals.set {x : V} {u : Value} (r : RelV x u) : ∀ {xs : List V} {us : List Value} (i : Nat), Vals xs us -> Vals (xs.set i x) (us.set i u)
 | _, _, _, .nil => .nil
 | _, _, 0, .cons _ t => .cons r t
 | _, _, i + 1, .cons q t => .cons q (Vals.set r i t)
theorem Vals.append : ∀ {xs ys : List V} {us ws : List Value}, Vals xs us -> Vals ys ws -> Vals (xs ++ ys) (us ++ ws)
 | _, _, _, _, .nil, s => s
 | _, _, _, _, .cons r t, s => .cons r (Vals.append t s)
theorem Vals.take : ∀ {xs : List V} {us : List Value} (n : Nat), Vals xs us -> Vals (xs.take n) (us.take n)
 | _, _, 0, _ => .nil
 | _, _, _ + 1, .nil => .nil
 | _, _, n + 1, .cons r t => .cons r (Vals.take n t)
theorem Vals.drop : ∀ {xs : List V} {us : List Value} (n : Nat), Vals xs us -> Vals (xs.drop n) (us.drop n)
 | _, _, 0, r => r
 | _, _, _ + 1, .nil => .nil
 | _, _, n + 1, .cons _ t => Vals.drop n t
noncomputable def eF : Option V -> Option Value -> Prop
 | some v, some u => RelV v u
 | none, none => True
 | _, _ => False
noncomputable def KV {κ : Type} : List (κ × V) -> List (κ × Value) -> Prop := Paired fun (p : κ × V) (q : κ × Value) => p.1 = q.1 /\ RelV p.2 q.2
noncomputable def kV : Key -> V
 | .inl i => .int i
 | .inr x => .str x
inductive HO where
 | lst (xs : List V)
 | tup (xs : List V)
 | dK (kvs : List (Key × V)) | dT (kvs : List (List Key × V))
 | set (S : Int -> Bool) (n : Nat)
 | ins (C dx : Addr) (fs : List (Str × V))
 | own (x : Addr)
 | xd (fs : List (Str × V))
 | met (f x : Addr)
 | eG (lo hi : Int)
 | bj (o : Obj) (u : HO)
 | tbl (ps : Array Value)
 | ext (φ : Heap -> Prop)
noncomputable abbrev Hp := Addr -> Option HO
noncomputable def upd (H : Hp) (a : Addr) (o : HO) : Hp := fun b => if b = a then some o else H b
theorem aq {H : Hp} {a : Addr} {o : HO} : upd H a o a = some o := by unfold upd; rw [if_pos rfl]
theorem aH {H : Hp} {a b : Addr} {o : HO} (h : b ≠ a) : upd H a o b = H b := by unfold upd; rw [if_neg h]
theorem r9 {H : Hp} {a : Addr} {o u : HO} : upd (upd H a o) a u = upd H a u := by
 funext b; unfold upd; split <;> rfl
theorem yt {H : Hp} {a b : Addr} {o u : HO} (h : H a = some o) (h' : H b = some u) (d : o ≠ u) : a ≠ b := by
 intro e; subst e; rw [h] at h'; exact d (Option.some.inj h')
theorem fb {H : Hp} {a b : Addr} {o : HO} (h : H a = some o) (h' : H b = none) : a ≠ b := by
 intro e; subst e; rw [h] at h'; cases h'
section
variable (P : Program) (w : World)
noncomputable def bD (H : Hp) (h : Heap) (a : Addr) : HO -> Prop
 | .lst xs => xs.length <= sizeLine /\ ∃ (ag : List Value) (n : Nat), Vals xs ag /\ h.get? a = some { cls := .type "list", data := .seq ag.toArray n }
 | .tup xs => xs.length <= sizeLine /\ ∃ ag : List Value, Vals xs ag /\ IsTup h a ag.toArray
 | .dK kvs => kvs.length <= sizeLine /\ (a == sysModules) = false /\ ∃ vs, KV kvs vs /\ h.DictOf (gO P w) a vs
 | .dT kvs => kvs.length <= sizeLine /\ (a == sysModules) = false /\ ∃ xs : List (List Key × Addr × Value),
  Paired (fun (p : List Key × V) (q : List Key × Addr × Value) => p.1 = q.1 /\ H q.2.1 = some (.tup (p.1.map kV)) /\ RelV p.2 q.2.2) kvs xs /\
  ∃ o es ep, h.get? a = some o /\ o.ExactDict /\ o.data = .dict es ep /\ es.toList = xs.map (entryOfKey (tupleKind (gO P w))) /\ (xs.map (·.1)).Nodup
 | .set S n => h.SetOf (intKind P w) a S n
 | .ins C dx fs => H dx = some (.own a) /\ fs.length <= 1000 /\ dx ≠ a /\ h.get? a = some (PySem.W.instObj C dx) /\
  ∃ mA, h.Ns1 dx mA /\ (∀ f, eF (fs.lookup f) (mA f)) /\ PySem.Within mA (fs.map (·.1))
 | .own _ => ∃ o, h.get? a = some o
 | .xd fs => ∃ mA, h.Ns1 a mA /\ ∀ f, eF (fs.lookup f) (mA f)
 | .eG lo hi => ∃ t u v, h.get? a = some { cls := .type "range", data := .fields #[.int lo t, .int hi u, .int 1 v] }
 | .bj o u => h.get? a = some o /\ bD H h a u
 | .tbl ps => h.get? a = some { cls := .none, data := .fields ps }
 | .met f x => h.get? a = some (PySem.W.methodObj (.ref f) (.ref x))
 | .ext φ => φ h /\ (∃ o, h.get? a = some o) /\ ∀ h1 h2 : Heap, φ h1 -> (∀ o, h1.get? a = some o -> h2.get? a = some o) -> φ h2
noncomputable def bM (H : Hp) (h : Heap) : Prop := ∀ a o, H a = some o -> bD P w H h a o
end
section
variable {P : Program} {w : World} {H H' : Hp} {h h' : Heap} {a : Addr} {o : HO}
theorem bD.lt (x : bD P w H h a o) : a < h.objs.size := by
 cases o with
 | lst xs => obtain ⟨_, _, _, _, e⟩ := x; exact Heap.lt_size e
 | tup xs => obtain ⟨_, _, _, p⟩ := x; exact p.lt
 | dK kvs => obtain ⟨_, _, _, _, o, _, _, e, _⟩ := x; exact Heap.lt_size e
 | dT kvs => obtain ⟨_, _, _, _, o, _, _, e, _⟩ := x; exact Heap.lt_size e
 | set S n => obtain ⟨o, _, _, _, e, _⟩ := x; exact Heap.lt_size e
 | ins C dx fs => obtain ⟨_, _, _, e, _⟩ := x; exact Heap.lt_size e
 | own y => obtain ⟨_, e⟩ := x; exact Heap.lt_size e
 | xd fs => obtain ⟨_, ⟨_, _, _, e, _⟩, _⟩ := x; exact Heap.lt_size e
 | eG lo hi => obtain ⟨_, _, _, e⟩ := x; exact Heap.lt_size e
 | bj ob u => obtain ⟨e, _⟩ := x; exact Heap.lt_size e
 | tbl ps => exact Heap.lt_size (show h.get? a = some _ from x)
 | met f y => exact Heap.lt_size (show h.get? a = some _ from x)
 | ext φ => obtain ⟨_, ⟨_, e⟩, _⟩ := x; exact Heap.lt_size e
theorem Paired.FI {α β : Type} {F G : α -> β -> Prop} : ∀ {l₁ : List α} {l₂ : List β}, Paired F l₁ l₂ -> (∀ a b, F a b -> G a b) -> Paired G l₁ l₂
 | _, _, .nil, _ => .nil
 | _, _, .cons r t, f => .cons (f _ _ r) (Paired.FI t f)
theorem bD.dn (x : bD P w H h a o) (k : ∀ b u, (b = a ∨ H b = some (.own a)) -> h.get? b = some u -> h'.get? b = some u)
 (ho : ∀ b, H b = some (.own a) -> H' b = some (.own a)) (ht : ∀ b xs, H b = some (.tup xs) -> H' b = some (.tup xs)) : bD P w H' h' a o := by
 induction o with
 | lst xs => obtain ⟨z, ag, n, r, e⟩ := x; exact ⟨z, ag, n, r, k _ _ (.inl rfl) e⟩
 | tup xs => obtain ⟨z, ag, r, ob, e, c⟩ := x; exact ⟨z, ag, r, ob, k _ _ (.inl rfl) e, c⟩
 | dK kvs => obtain ⟨z, y, vs, r, ob, es, ep, e, c⟩ := x; exact ⟨z, y, vs, r, ob, es, ep, k _ _ (.inl rfl) e, c⟩
 | dT kvs =>
  obtain ⟨z, y, xs, r, ob, es, ep, e, c⟩ := x
  exact ⟨z, y, xs, Paired.FI r fun p q z => ⟨z.1, ht _ _ z.2.1, z.2.2⟩, ob, es, ep, k _ _ (.inl rfl) e, c⟩
 | set S n => obtain ⟨ob, es, ep, t, e, c⟩ := x; exact ⟨ob, es, ep, t, k _ _ (.inl rfl) e, c⟩
 | ins C dx fs =>
  obtain ⟨d, z, ne, e, mA, ⟨od, es, ep, e2, c⟩, r⟩ := x
  exact ⟨ho _ d, z, ne, k _ _ (.inl rfl) e, mA, ⟨od, es, ep, k _ _ (.inr d) e2, c⟩, r⟩
 | own y => obtain ⟨ob, e⟩ := x; exact ⟨ob, k _ _ (.inl rfl) e⟩
 | xd fs => obtain ⟨mA, ⟨od, es, ep, e, c⟩, r⟩ := x; exact ⟨mA, ⟨od, es, ep, k _ _ (.inl rfl) e, c⟩, r⟩
 | eG lo hi => obtain ⟨t, u, v, e⟩ := x; exact ⟨t, u, v, k _ _ (.inl rfl) e⟩
 | bj ob u ih => obtain ⟨e, q⟩ := x; exact ⟨k _ _ (.inl rfl) e, ih q⟩
 | tbl ps =>
  have e : h.get? a = some { cls := .none, data := .fields ps } := x
  show h'.get? a = some { cls := .none, data := .fields ps }
  exact k a _ (.inl rfl) e
 | met f y =>
  have e : h.get? a = some (PySem.W.methodObj (.ref f) (.ref y)) := x
  show h'.get? a = some (PySem.W.methodObj (.ref f) (.ref y))
  exact k a _ (.inl rfl) e
 | ext φ => obtain ⟨p, ⟨o, e⟩, st⟩ := x; exact ⟨st _ _ p fun o q => k _ _ (.inl rfl) q, ⟨o, k _ _ (.inl rfl) e⟩, st⟩
theorem bM.lt (x : bM P w H h) (e : H a = some o) : a < h.objs.size := (x a o e).lt
theorem bM.fresh (x : bM P w H h) (e : h.objs.size <= a) : H a = none := by
 cases q : H a with
 | none => rfl
 | some u => exact absurd (Nat.lt_of_lt_of_le (x.lt q) e) (Nat.lt_irrefl _)
theorem bM.kept (x : bM P w H h) (k : ∀ b u, h.get? b = some u -> h'.get? b = some u) : bM P w H h' := fun a o e =>
 (x a o e).dn (fun b u _ q => k b u q) (fun _ q => q) fun _ _ q => q
theorem bM.laid (x : bM P w H h) (k : ∀ b u, h.get? b = some u -> h'.get? b = some u) (hp : h.objs.size <= a) (new : bD P w (upd H a o) h' a o) : bM P w (upd H a o) h' := fun b u e => by
 have hn := x.fresh hp
 by_cases hb : b = a
 ·subst hb; rw [aq] at e; cases e; exact new
 ·rw [aH hb] at e
  exact (x b u e).dn (fun c v _ q => k c v q) (fun c q => by rw [aH (fb q hn)]; exact q) fun c xs q => by rw [aH (fb q hn)]; exact q
end
noncomputable def Rd (H : Hp) (a : Addr) (u : HO) : Prop := H a = some u ∨ ∃ o, H a = some (.bj o u)
theorem Rd.of {H : Hp} {a : Addr} {u : HO} (h : H a = some u) : Rd H a u := .inl h
theorem Rd.ok {P : Program} {w : World} {H : Hp} {h : Heap} {a : Addr} {u : HO} (r : Rd H a u) (x : bM P w H h) : bD P w H h a u := by
 rcases r with r | ⟨o, r⟩
 ·exact x a u r
 ·obtain ⟨_, q⟩ := x a _ r
  exact q
noncomputable def se : Option HO -> Prop
 | some (.lst _) => True
 | some (.dK _) => True
 | some (.dT _) => True
 | some (.set _ _) => True
 | some (.ins _ _ _) => True
 | some (.ext _) => True
 | _ => False
section
variable {P : Program} {w : World} {H : Hp} {h h' : Heap} {x e : Addr} {o' : HO}
theorem bM.write (ok : bM P w H h) (mu : se (H x)) (he : e = x ∨ H e = some (.own x)) (k : ∀ b u, b ≠ e -> h.get? b = some u -> h'.get? b = some u) (kZ : ∃ u, h'.get? e = some u)
 (new : bD P w (upd H x o') h' x o') : bM P w (upd H x o') h' := fun b u q => by
 have FK : ∀ c y, H c = some (.own y) -> c ≠ x := fun c y r z => by subst z; rw [r] at mu; exact mu
 have Mb : ∀ c xs, H c = some (.tup xs) -> c ≠ x := fun c xs r z => by subst z; rw [r] at mu; exact mu
 by_cases hb : b = x
 ·subst hb; rw [aq] at q; cases q; exact new
 ·rw [aH hb] at q
  by_cases fH : b = e
  ·have q' : H b = some (.own x) := by
    rcases he with z | z
    ·exact absurd (fH.trans z) hb
    ·rw [fH]; exact z
   rw [q] at q'; cases q'
   obtain ⟨v, hv⟩ := kZ
   exact ⟨v, by rw [fH]; exact hv⟩
  ·refine (ok b u q).dn (fun c v hc r => k c v ?_ r) (fun c r => by rw [aH (FK c b r)]; exact r) fun c xs r => by rw [aH (Mb c xs r)]; exact r
   rcases hc with rfl | hc
   ·exact fH
   ·rintro rfl
    rcases he with z | z
    ·exact FK c b hc z
    ·rw [hc] at z; cases z; exact hb rfl
end
structure Un (fs ex : List Addr) (H H' : Hp) (h h' : Heap) : Prop where
 keep : ∀ b o, h.get? b = some o -> H b = none -> b ∉ fs -> b ∉ ex -> h'.get? b = some o
 slot : ∀ b o, h.get? b = some o -> H b = none -> b ∈ fs -> b ∉ ex -> ∃ sl, h'.get? b = some { o with slots := sl }
 free : ∀ b o, h.get? b = some o -> H b = none -> b ∉ ex -> H' b = none
 there : ∀ b o, h.get? b = some o -> b ∉ ex -> ∃ o', h'.get? b = some o'
 cb : ∀ b xs, H b = some (.tup xs) -> H' b = some (.tup xs)
 cc : ∀ b o u, H b = some (.bj o u) -> H' b = some (.bj o u)
 cB : ∀ b ps, H b = some (.tbl ps) -> ∃ more, H' b = some (.tbl (ps ++ more))
section
variable {fs Mc ex ex' : List Addr} {H H1 H2 : Hp} {h h1 h2 h' : Heap} {a x e : Addr} {o : HO}
theorem Un.any (u : Un fs ex H H1 h h1) {b : Addr} {ob : Obj} (q : h.get? b = some ob) (n : H b = none) (hx : b ∉ ex) : ∃ sl, h1.get? b = some { ob with slots := sl } := by
 by_cases hb : b ∈ fs
 ·exact u.slot b ob q n hb hx
 ·exact ⟨ob.slots, u.keep b ob q n hb hx⟩
theorem Un.trans (a : Un fs ex H H1 h h1) (b : Un fs ex H1 H2 h1 h2) : Un fs ex H H2 h h2 where
 keep := fun c ob q n hc hx => b.keep c ob (a.keep c ob q n hc hx) (a.free c ob q n hx) hc hx
 slot := fun c ob q n hc hx => by
  obtain ⟨sl, e1⟩ := a.slot c ob q n hc hx
  obtain ⟨fc, e2⟩ := b.slot c _ e1 (a.free c ob q n hx) hc hx
  exact ⟨fc, e2⟩
 free := fun c ob q n hx => by
  obtain ⟨o', e1⟩ := a.there c ob q hx
  exact b.free c o' e1 (a.free c ob q n hx) hx
 there := fun c ob q hx => by
  obtain ⟨o', e1⟩ := a.there c ob q hx
  exact b.there c o' e1 hx
 cb := fun c xs q => b.cb c xs (a.cb c xs q)
 cc := fun c ob xs q => b.cc c ob xs (a.cc c ob xs q)
 cB := fun c ps q => by
  obtain ⟨m1, e1⟩ := a.cB c ps q
  obtain ⟨m2, e2⟩ := b.cB c _ e1
  exact ⟨m1 ++ m2, by rw [e2, Array.append_assoc]⟩
theorem Un.kept (k : ∀ b u, h.get? b = some u -> h'.get? b = some u) : Un fs ex H H h h' :=
 ⟨fun b ob q _ _ _ => k b ob q, fun b ob q _ _ _ => ⟨ob.slots, k b ob q⟩, fun _ _ _ n _ => n, fun b ob q _ => ⟨ob, k b ob q⟩, fun _ _ q => q, fun _ _ _ q => q, fun _ ps q => ⟨#[], by rw [q]; simp⟩⟩
theorem Un.refl : Un fs ex H H h h := Un.kept fun _ _ q => q
theorem Un.laid (k : ∀ b u, h.get? b = some u -> h'.get? b = some u) (hp : h.objs.size <= a) (hn : H a = none) : Un fs ex H (upd H a o) h h' where
 keep := fun b u q _ _ _ => k b u q
 slot := fun b u q _ _ _ => ⟨u.slots, k b u q⟩
 free := fun b u q n _ => by rw [aH (Nat.ne_of_lt (Nat.lt_of_lt_of_le (Heap.lt_size q) hp))]; exact n
 there := fun b u q _ => ⟨u, k b u q⟩
 cb := fun b xs q => by rw [aH (fb q hn)]; exact q
 cc := fun b u xs q => by rw [aH (fb q hn)]; exact q
 cB := fun b ps q => ⟨#[], by rw [aH (fb q hn), q]; simp⟩
theorem Un.write (mu : se (H x)) (he : e = x ∨ H e = some (.own x)) (k : ∀ b u, b ≠ e -> h.get? b = some u -> h'.get? b = some u) (kZ : ∃ u, h'.get? e = some u) : Un fs ex H (upd H x o) h h' := by
 have hx : ∀ b, H b = none -> b ≠ x := fun b n z => by subst z; rw [n] at mu; exact mu
 have hb : ∀ b, H b = none -> b ≠ e := fun b n z => by
  subst z
  rcases he with r | r
  ·exact hx b n r
  ·rw [n] at r; cases r
 have hm : ∀ b u, H b = some u -> ¬ se (some u) -> b ≠ x := fun b u q nm z => by subst z; rw [q] at mu; exact nm mu
 refine ⟨fun b u q n _ _ => k b u (hb b n) q, fun b u q n _ _ => ⟨u.slots, k b u (hb b n) q⟩, fun b u q n _ => by rw [aH (hx b n)]; exact n, fun b u q _ => ?_,
  fun b xs q => by rw [aH (hm b _ q fun z => z)]; exact q, fun b u xs q => by rw [aH (hm b _ q fun z => z)]; exact q, fun b ps q => ⟨#[], by rw [aH (hm b _ q fun z => z), q]; simp⟩⟩
 by_cases fH : b = e
 ·subst fH; exact kZ
 ·exact ⟨u, k b u fH q⟩
end
noncomputable def sf (h : Heap) (H : Hp) : List Addr := (List.range h.objs.size).filter fun a => (H a).isSome
noncomputable def gm (h : Heap) (H : Hp) : Heap := PySem.W.hideAll h (sf h H)
theorem Md (h : Heap) (H : Hp) : (gm h H).objs.size = h.objs.size := PySem.W.hideAll_size _ _
theorem Me {h : Heap} {H : Hp} {b : Addr} {o : Obj} (e : h.get? b = some o) (n : H b = none) : (gm h H).get? b = some o :=
 PySem.W.hideAll_get _ e fun hm => by
  have q : (H b).isSome = true := (List.mem_filter.mp hm).2
  rw [n] at q; simp at q
theorem Mf {h : Heap} {H : Hp} {b : Addr} {o : Obj} (e : (gm h H).get? b = some o) : h.get? b = some o /\ H b = none := by
 have e' : h.get? b = some o := PySem.W.of_hideAll (sf h H) e
 refine ⟨e', ?_⟩
 cases q : H b with
 | none => rfl
 | some x =>
  have hm : b ∈ sf h H := List.mem_filter.mpr ⟨List.mem_range.mpr (Heap.lt_size e'), by simp [q]⟩
  have z : (gm h H).get? b = none := PySem.W.hideAll_none (sf h H) hm
  rw [z] at e; cases e
noncomputable def Mg (g h : Heap) (L : Addr) : List (Addr × Obj) := (List.range h.objs.size).filterMap fun a => if a = L ∨ (g.get? a).isSome = true then none else (h.get? a).map fun o => (a, o)
noncomputable def rest (g h : Heap) (L d : Addr) : List (Addr × Obj) := (Mg g h L).filter fun p => decide (p.1 ≠ d)
end L2
namespace L2
open PySem PySem.Spec PyProof.Rows
structure Mod (K : PySem.W.Frag) (mg : Str -> Option Value) (base : Heap) : Prop where
 kin : K.In base
 glob : base.Ns mainGlobals mg
 blt : ∃ mb, base.Ns builtinsNs mb /\ ∀ x : Str, x ≠ "__name__" -> mb x = bootBuiltins x
 nolimit : base.NoLimit
structure Cx where
 prog : Program
 w : World
 K : PySem.W.Frag
 mg : Str -> Option Value
 base : Heap
 A : Around
 N : List Str
 s₀ : Shared
 H₀ : Hp
 env : Env
 outer : List Env
 stack : List Env
 ex : List Addr
 fn : Str -> Bool
 calm : Bool
 pn : List (Addr × Obj)
 xe : Value -> Shared -> Prop
noncomputable def aT (l : List Env) : List Addr := l.filterMap (·.frame)
noncomputable abbrev Cx.fs (X : Cx) : List Addr := aT X.outer
noncomputable def yu (sc : Scope) (x : Str) : Prop := sc.names.lookup x = some .local ∨ sc.names.lookup x = some .cell ∨ sc.names.lookup x = some .free
noncomputable def Loc (sc : Scope) (x : Str) : Prop := sc.names.lookup x = some .local ∨ sc.names.lookup x = some .cell
noncomputable def Look (env : Env) (h : Heap) (m : Str -> Option Value) (x : Str) (u : Value) : Prop :=
 (env.kindOf x = some .local /\ m x = some u) ∨ ((env.kindOf x = some .cell ∨ env.kindOf x = some .free) /\ ∃ c, env.cells.lookup x = some c /\ h.IsCell c (some u))
structure Cx.Ok (X : Cx) : Prop where
 mod : Mod X.K X.mg X.base
 kind : X.env.scope.kind = .function
 glob : X.env.globals = mainGlobals
 blt : X.env.builtins = builtinsNs
 above : X.s₀.heap.objs.size <= X.env.locals
 inj : ∀ x y c, X.env.cells.lookup x = some c -> X.env.cells.lookup y = some c -> x = y
 has : ∀ x, (X.env.kindOf x = some .cell ∨ X.env.kindOf x = some .free) -> ∃ c, X.env.cells.lookup x = some c
 cab : ∀ x c, X.fn x = true -> X.env.cells.lookup x = some c -> X.s₀.heap.objs.size <= c
 hd : X.calm = true -> X.A.handled = none
 frames : X.A.frames = some X.stack
 stk : X.stack = X.outer ∨ (X.stack = X.env :: X.outer /\ X.env.frame = some X.env.locals)
 exf : ∀ b ∈ X.ex, b ≠ X.env.locals /\ ∀ x c, X.env.cells.lookup x = some c -> c ≠ b
 bs : ∀ b o, X.base.get? b = some o -> X.s₀.heap.get? b = some o /\ X.H₀ b = none
 bsz : X.base.objs.size <= X.s₀.heap.objs.size
 noex : ∀ b o, X.base.get? b = some o -> b ∉ X.ex
 exfs : ∀ b ∈ X.ex, b ∉ X.fs
 dq : X.s₀.heap.FunFrames X.base X.outer
 frf : ∀ b ∈ X.fs, X.H₀ b = none
structure Inv (X : Cx) (pins : List (Addr × Obj)) (σ : List (Option V)) (H : Hp) (s : Shared) : Prop where
 ok : X.Ok
 os : s.os = X.s₀.os
 bare : AllBare s.gens
 base : Un X.fs X.ex X.H₀ H X.s₀.heap s.heap
 loc : ∃ m, s.heap.Ns X.env.locals m /\ ∀ (i : Nat) (x : Str) (v : V), X.N[i]? = some x -> σ[i]? = some (some v) -> yu X.env.scope x -> ∃ u, RelV v u /\ Look X.env s.heap m x u
 cell : ∀ x c, X.env.cells.lookup x = some c -> ∃ v, s.heap.IsCell c v
 free : H X.env.locals = none
 cS : ∀ x c, X.env.cells.lookup x = some c -> H c = none
 pin : ∀ p ∈ X.pn ++ pins, s.heap.get? p.1 = some p.2 /\ H p.1 = none /\ p.1 ≠ X.env.locals /\ p.1 ∉ X.fs /\ ∀ v, p.2.data ≠ .cell v
 ar : bM X.prog X.w H s.heap
 len : σ.length = X.N.length
section
variable {X : Cx} {pins : List (Addr × Obj)} {σ : List (Option V)} {H H' : Hp} {s : Shared} {h' : Heap}
theorem Cx.Ok.gn (ok : X.Ok) {b : Addr} {o : Obj} (e : X.base.get? b = some o) : b ∉ X.fs := fun hb => by
 have := (ok.dq.mem hb).1
 rw [e] at this; cases this
theorem Inv.bs (I : Inv X pins σ H s) : ∀ b o, X.base.get? b = some o -> s.heap.get? b = some o /\ H b = none := fun b o e =>
 ⟨I.base.keep b o (I.ok.bs b o e).1 (I.ok.bs b o e).2 (I.ok.gn e) (I.ok.noex b o e), I.base.free b o (I.ok.bs b o e).1 (I.ok.bs b o e).2 (I.ok.noex b o e)⟩
theorem Inv.bk (I : Inv X pins σ H s) : ∀ b o, X.base.get? b = some o -> s.heap.get? b = some o := fun b o e => (I.bs b o e).1
theorem Inv.mod (I : Inv X pins σ H s) : Mod X.K X.mg X.base := I.ok.mod
theorem Inv.bP (I : Inv X pins σ H s) : X.K.In s.heap := I.ok.mod.kin.keeps I.bk
theorem Inv.lt (I : Inv X pins σ H s) : X.env.locals < s.heap.objs.size := let ⟨_, hn, _⟩ := I.loc; hn.lt
theorem Inv.sz (I : Inv X pins σ H s) : X.s₀.heap.objs.size <= s.heap.objs.size := Nat.le_trans I.ok.above (Nat.le_of_lt I.lt)
theorem Inv.yw (I : Inv X pins σ H s) {a : Addr} (h : s.heap.objs.size <= a) : a ∉ X.fs := fun hb => by
 obtain ⟨_, o, ho, _⟩ := I.ok.dq.mem hb
 exact absurd (Nat.lt_of_lt_of_le (Heap.lt_size ho) (Nat.le_trans I.sz h)) (Nat.lt_irrefl _)
theorem Inv.fe (I : Inv X pins σ H s) : ∀ x c, X.env.cells.lookup x = some c -> c ≠ X.env.locals := fun x c e z => by
 obtain ⟨v, o, ho, hd⟩ := I.cell x c e
 obtain ⟨m, ⟨o', es, ep, b5, gp, _⟩, _⟩ := I.loc
 rw [z, b5] at ho; cases ho; rw [gp] at hd; cases hd
theorem Inv.dq (I : Inv X pins σ H s) : s.heap.FunFrames X.base X.outer := by
 have all : ∀ (l : List Env), (∀ b ∈ aT l, b ∈ X.fs) -> X.s₀.heap.FunFrames X.base l -> s.heap.FunFrames X.base l := by
  intro l
  induction l with
  | nil => intro _ _; trivial
  | cons env r ih =>
   intro hs hl
   obtain ⟨hk, ⟨L, o, hf, hn, ho, hd⟩, hr⟩ := hl
   have hL : L ∈ X.fs := hs L (by unfold aT; rw [List.filterMap_cons, hf]; exact List.mem_cons_self)
   obtain ⟨sl, e⟩ := I.base.slot L o ho (I.ok.frf L hL) hL fun z => I.ok.exfs L z hL
   exact ⟨hk, ⟨L, _, hf, hn, e, hd⟩, ih (fun b hb => hs b (by unfold aT; rw [List.filterMap_cons, hf]; exact List.mem_cons_of_mem _ hb)) hr⟩
 exact all X.outer (fun _ hb => hb) I.ok.dq
theorem Inv.stack (I : Inv X pins σ H s) : s.heap.FunFrames X.base X.stack := by
 rcases I.ok.stk with e | ⟨e, hf⟩
 ·rw [e]; exact I.dq
 ·rw [e]
  obtain ⟨m, hn, _⟩ := I.loc
  refine .cons (by rw [I.ok.kind]; decide) hf hn ?_ I.dq
  exact Heap.get?_none_of_le (Nat.le_trans I.ok.bsz I.ok.above)
theorem Inv.fI (I : Inv X pins σ H s) : ∀ b ∈ aT X.stack, b ∈ X.env.locals :: X.fs := fun b hb => by
 rcases I.ok.stk with e | ⟨e, hf⟩
 ·rw [e] at hb; exact List.mem_cons_of_mem _ hb
 ·rw [e] at hb
  unfold aT at hb
  rw [List.filterMap_cons, hf] at hb
  exact hb
theorem Inv.k6 (I : Inv X pins σ H s) : ∀ b ∈ aT X.stack, H b = none := fun b hb => by
 rcases List.mem_cons.mp (I.fI b hb) with e | hb
 ·rw [e]; exact I.free
 ·obtain ⟨_, o, ho, _⟩ := I.ok.dq.mem hb
  exact I.base.free b o ho (I.ok.frf b hb) fun z => I.ok.exfs b z hb
theorem Inv.step {g' : Array GenState} {t' : Nat} {d' : Drawn} {ch : List Addr} (I : Inv X pins σ H s)
 (fJ : ∀ b ∈ ch, (b ∈ X.ex ∨ X.s₀.heap.objs.size <= b) /\ b ≠ X.env.locals /\ (∀ x c, X.env.cells.lookup x = some c -> c ≠ b) /\ ∀ p ∈ X.pn ++ pins, p.1 ≠ b)
 (keep : ∀ b o, b ≠ X.env.locals -> b ∉ X.fs -> b ∉ ch -> s.heap.get? b = some o -> H b = none -> h'.get? b = some o)
 (slot : ∀ b o, b ≠ X.env.locals -> b ∈ X.fs -> b ∉ ch -> s.heap.get? b = some o -> H b = none -> ∃ sl, h'.get? b = some { o with slots := sl }) (free : ∀ b o, b ∉ ch -> s.heap.get? b = some o -> H b = none -> H' b = none)
 (there : ∀ b o, b ∉ ch -> s.heap.get? b = some o -> ∃ o', h'.get? b = some o')
 (cb : ∀ b xs, H b = some (.tup xs) -> H' b = some (.tup xs)) (cc : ∀ b o u, H b = some (.bj o u) -> H' b = some (.bj o u)) (cB : ∀ b ps, H b = some (.tbl ps) -> ∃ more, H' b = some (.tbl (ps ++ more)))
 (ns : ∀ m, s.heap.Ns X.env.locals m -> h'.Ns X.env.locals m) (ar : bM X.prog X.w H' h') (hg : AllBare g') :
 Inv X pins σ H' { s with heap := h', gens := g', drawn := d', toks := t' } := by
 have k7 : ∀ b o, X.s₀.heap.get? b = some o -> b ≠ X.env.locals := fun b o e => Nat.ne_of_lt (Nat.lt_of_lt_of_le (Heap.lt_size e) I.ok.above)
 have si : ∀ b o, X.s₀.heap.get? b = some o -> b ∉ X.ex -> b ∉ ch := fun b o e hx hb => by
  rcases (fJ b hb).1 with z | z
  ·exact hx z
  ·exact absurd (Nat.lt_of_lt_of_le (Heap.lt_size e) z) (Nat.lt_irrefl _)
 have cellK : ∀ x c, X.env.cells.lookup x = some c -> ∀ v, s.heap.IsCell c v -> h'.IsCell c v := fun x c e v ⟨o, ho, hd⟩ => by
  have gP : c ∉ ch := fun z => (fJ c z).2.2.1 x c e rfl
  by_cases hc : c ∈ X.fs
  ·obtain ⟨sl, q⟩ := slot c o (I.fe x c e) hc gP ho (I.cS x c e)
   exact ⟨_, q, hd⟩
  ·exact ⟨o, keep c o (I.fe x c e) hc gP ho (I.cS x c e), hd⟩
 refine ⟨I.ok, I.os, hg, ⟨fun b o e n hb hx => ?_, fun b o e n hb hx => ?_, fun b o e n hx => ?_, fun b o e hx => ?_, fun b xs e => cb b xs (I.base.cb b xs e), fun b o xs e => cc b o xs (I.base.cc b o xs e), fun b ps e => ?_⟩, ?_, fun x c e => ?_, ?_, fun x c e => ?_, fun p hp => ?_, ar, I.len⟩
 ·exact keep b o (k7 b o e) hb (si b o e hx) (I.base.keep b o e n hb hx) (I.base.free b o e n hx)
 ·obtain ⟨sl, e1⟩ := I.base.slot b o e n hb hx
  obtain ⟨fc, e2⟩ := slot b _ (k7 b o e) hb (si b o e hx) e1 (I.base.free b o e n hx)
  exact ⟨fc, e2⟩
 ·obtain ⟨o', e1⟩ := I.base.there b o e hx
  exact free b o' (si b o e hx) e1 (I.base.free b o e n hx)
 ·obtain ⟨o', e1⟩ := I.base.there b o e hx
  exact there b o' (si b o e hx) e1
 ·obtain ⟨m1, e1⟩ := I.base.cB b ps e
  obtain ⟨m2, e2⟩ := cB b _ e1
  exact ⟨m1 ++ m2, by rw [e2, Array.append_assoc]⟩
 ·obtain ⟨m, hn, hl⟩ := I.loc
  refine ⟨m, ns m hn, fun i x v e1 e2 e3 => ?_⟩
  obtain ⟨u, r, l⟩ := hl i x v e1 e2 e3
  refine ⟨u, r, ?_⟩
  rcases l with l | ⟨k, c, e, z⟩
  ·exact .inl l
  ·exact .inr ⟨k, c, e, cellK x c e _ z⟩
 ·obtain ⟨v, z⟩ := I.cell x c e
  exact ⟨v, cellK x c e v z⟩
 ·obtain ⟨m, ⟨o, _, _, ho, _⟩, _⟩ := I.loc
  exact free _ o (fun z => (fJ _ z).2.1 rfl) ho I.free
 ·obtain ⟨v, o, ho, hd⟩ := I.cell x c e
  exact free c o (fun z => (fJ c z).2.2.1 x c e rfl) ho (I.cS x c e)
 ·obtain ⟨e, n, ne, nf, d⟩ := I.pin p hp
  have gP : p.1 ∉ ch := fun z => (fJ p.1 z).2.2.2 p hp rfl
  exact ⟨keep p.1 p.2 ne nf gP e n, free p.1 p.2 gP e n, ne, nf, d⟩
theorem Inv.un {t' : Nat} (I : Inv X pins σ H s) (u : Un X.fs [] H H' s.heap h') (ar : bM X.prog X.w H' h') : Inv X pins σ H' { s with heap := h', toks := t' } := by
 obtain ⟨m, ⟨o, es, ep, ho, r⟩, _⟩ := id I.loc
 obtain ⟨sl, hL⟩ := u.any ho I.free (by simp)
 exact I.step (g' := s.gens) (d' := s.drawn) (ch := []) (fun _ z => nomatch z) (fun b o _ hb _ e n => u.keep b o e n hb (by simp)) (fun b o _ hb _ e n => u.slot b o e n hb (by simp)) (fun b o _ e n => u.free b o e n (by simp)) (fun b o _ e => u.there b o e (by simp)) u.cb u.cc u.cB (fun m' hm => by
  obtain ⟨o', oP, oQ, b5, r'⟩ := hm
  rw [ho] at b5; cases b5
  exact ⟨_, oP, oQ, hL, r'⟩) ar I.bare
theorem Inv.call {g' : Array GenState} {t' : Nat} {d' : Drawn} {ch : List Addr} (I : Inv X pins σ H s) (u : Un (aT X.stack) ch H H' s.heap h') (ar : bM X.prog X.w H' h') (hg : AllBare g')
 (fJ : ∀ b ∈ ch, (b ∈ X.ex ∨ X.s₀.heap.objs.size <= b) /\ b ≠ X.env.locals /\ (∀ x c, X.env.cells.lookup x = some c -> c ≠ b) /\ ∀ p ∈ X.pn ++ pins, p.1 ≠ b) :
 Inv X pins σ H' { s with heap := h', gens := g', drawn := d', toks := t' } := by
 obtain ⟨m, ⟨o, es, ep, ho, r⟩, _⟩ := id I.loc
 obtain ⟨sl, hL⟩ := u.any ho I.free fun z => (fJ _ z).2.1 rfl
 exact I.step (ch := ch) fJ (fun b o hL hb hc e n => u.keep b o e n (fun z => (List.mem_cons.mp (I.fI b z)).elim hL hb) hc) (fun b o _ _ hc e n => u.any e n hc) (fun b o hc e n => u.free b o e n hc) (fun b o hc e => u.there b o e hc) u.cb u.cc u.cB (fun m' hm => by
  obtain ⟨o', oP, oQ, b5, r'⟩ := hm
  rw [ho] at b5; cases b5
  exact ⟨_, oP, oQ, hL, r'⟩) ar hg
theorem Inv.turned {t' : Nat} {it : Addr} (I : Inv X pins σ H s) (k : ∀ b o, b ≠ it -> s.heap.get? b = some o -> h'.get? b = some o) (hn : H it = none) (hL : it ≠ X.env.locals)
 (h1 : it ∈ X.ex ∨ X.s₀.heap.objs.size <= it) (h2 : ∀ x c, X.env.cells.lookup x = some c -> c ≠ it) (h3 : ∀ p ∈ X.pn ++ pins, p.1 ≠ it) : Inv X pins σ H { s with heap := h', toks := t' } := by
 have FL : ∀ b u, H b = some u -> b ≠ it := fun b u e z => by rw [z, hn] at e; cases e
 refine I.step (g' := s.gens) (d' := s.drawn) (ch := [it]) (fun b hb => ?_) (fun b o _ _ hc e _ => k b o (fun z => hc (by simp [z])) e) (fun b o _ _ hc e _ => ⟨o.slots, k b o (fun z => hc (by simp [z])) e⟩) (fun _ _ _ _ n => n)
  (fun b o hc e => ⟨o, k b o (fun z => hc (by simp [z])) e⟩) (fun _ _ e => e) (fun _ _ _ e => e) (fun b ps e => ⟨#[], by rw [e]; simp⟩) (fun m hm => ?_) (fun b u e => ?_) I.bare
 ·have e : b = it := by simpa using hb
  subst e
  exact ⟨h1, hL, h2, h3⟩
 ·obtain ⟨o, es, ep, ho, r⟩ := hm
  exact ⟨o, es, ep, k _ o (Ne.symm hL) ho, r⟩
 ·refine (I.ar b u e).dn (fun c v hc q => k c v ?_ q) (fun _ q => q) fun _ _ q => q
  rcases hc with z | z
  ·rw [z]; exact FL b u e
  ·exact FL c _ z
theorem Inv.tok (I : Inv X pins σ H s) (t : Nat) : Inv X pins σ H { s with toks := t } := I.un (h' := s.heap) (t' := t) Un.refl I.ar
theorem Inv.kept {t' : Nat} (I : Inv X pins σ H s) (k : ∀ b u, s.heap.get? b = some u -> h'.get? b = some u) : Inv X pins σ H { s with heap := h', toks := t' } := I.un (Un.kept k) (I.ar.kept k)
theorem Inv.laid {a : Addr} {o : HO} {t' : Nat} (I : Inv X pins σ H s) (k : ∀ b u, s.heap.get? b = some u -> h'.get? b = some u) (hp : s.heap.objs.size <= a) (new : bD X.prog X.w (upd H a o) h' a o) :
 Inv X pins σ (upd H a o) { s with heap := h', toks := t' } := I.un (Un.laid k hp (I.ar.fresh hp)) (I.ar.laid k hp new)
theorem Inv.write {x e : Addr} {o : HO} {t' : Nat} (I : Inv X pins σ H s) (mu : se (H x)) (he : e = x ∨ H e = some (.own x)) (k : ∀ b u, b ≠ e -> s.heap.get? b = some u -> h'.get? b = some u) (kZ : ∃ u, h'.get? e = some u)
 (new : bD X.prog X.w (upd H x o) h' x o) : Inv X pins σ (upd H x o) { s with heap := h', toks := t' } := I.un (Un.write mu he k kZ) (I.ar.write mu he k kZ new)
theorem Inv.weak {σ' : List (Option V)} (I : Inv X pins σ H s) (hl : σ'.length = σ.length) (w : ∀ (i : Nat) v, σ'[i]? = some (some v) -> σ[i]? = some (some v)) : Inv X pins σ' H s :=
 ⟨I.ok, I.os, I.bare, I.base, let ⟨m, hn, yx⟩ := I.loc; ⟨m, hn, fun i x v e1 e2 e3 => yx i x v e1 (w i v e2) e3⟩, I.cell, I.free, I.cS, I.pin, I.ar, hl.trans I.len⟩
theorem Inv.jT {oR : List (Addr × Obj)} (I : Inv X pins σ H s) (h : ∀ p ∈ oR, s.heap.get? p.1 = some p.2 /\ H p.1 = none /\ p.1 ≠ X.env.locals /\ p.1 ∉ X.fs /\ ∀ v, p.2.data ≠ .cell v) : Inv X oR σ H s :=
 ⟨I.ok, I.os, I.bare, I.base, I.loc, I.cell, I.free, I.cS, fun p hp => (List.mem_append.mp hp).elim (fun z => I.pin p (List.mem_append_left _ z)) (h p), I.ar, I.len⟩
theorem yy {N : List Str} (hN : N.Nodup) {i j : Nat} {x : Str} (a : N[i]? = some x) (b : N[j]? = some x) : i = j := by
 obtain ⟨h1, e1⟩ := List.getElem?_eq_some_iff.mp a
 obtain ⟨h2, e2⟩ := List.getElem?_eq_some_iff.mp b
 exact (List.getElem_inj hN).mp (e1.trans e2.symm)
theorem Mh {M : Model} {A : Around} {E : Value -> Shared -> Prop} {i : Nat} {x : Str} {v : V} {u : Value} {Q : Unit -> Shared -> Prop} (I : Inv X pins σ H s) (hN : X.N.Nodup) (hi : X.N[i]? = some x) (hx : Loc X.env.scope x) (r : RelV v u)
 (h : ∀ s', Inv X pins (σ.set i (some v)) H s' -> (∃ a, Heap.SameBut a s.heap s'.heap /\ (a = X.env.locals ∨ X.env.cells.lookup x = some a)) -> Q () s') (hf : X.fn x = true ∨ X.env.scope.names.lookup x = some .local := by first | exact .inl rfl | exact .inr rfl | assumption) : wpAny M A (storeName X.env x u) Q E s := by
 obtain ⟨m, hn, hl⟩ := id I.loc
 have yz : (X.env.scope.kind == .class || (X.env.scope.kind == .module && X.env.locals != X.env.globals)) = false := by rw [I.ok.kind]; rfl
 have FN : i < σ.length := by rw [I.len]; exact (List.getElem?_eq_some_iff.mp hi).1
 have fe := I.fe
 have tracked : ∀ {a : Addr} {h' : Heap}, (∃ o, s.heap.get? a = some o /\ H a = none) -> Heap.SameBut a s.heap h' -> bM X.prog X.w H h' := fun {a h'} ha hs b ob e => by
  obtain ⟨_, _, hfree⟩ := ha
  refine (I.ar b ob e).dn (fun c w' hc q => (hs.2 c ?_).trans q) (fun _ q => q) fun _ _ q => q
  rintro rfl
  rcases hc with rfl | hc
  ·rw [hfree] at e; cases e
  ·rw [hfree] at hc; cases hc
 rcases hx with hk | hk
 ·refine wpAny_storeName_local hk hn (fun h' yA hs => ?_) yz
  obtain ⟨oL, _, _, fK, _⟩ := id hn
  refine h _ ⟨I.ok, I.os, I.bare, ⟨fun b o e n hb hx => ?_, fun b o e n hb hx => ?_, I.base.free, fun b o e hx => ?_, I.base.cb, I.base.cc, I.base.cB⟩, ⟨_, yA, fun j y v' e1 e2 e3 => ?_⟩, fun y c e => ?_, I.free, I.cS, fun p hp => ?_, tracked ⟨oL, fK, I.free⟩ hs, by simpa using I.len⟩ ⟨_, hs, .inl rfl⟩
  ·exact (hs.2 b (Nat.ne_of_lt (Nat.lt_of_lt_of_le (Heap.lt_size e) I.ok.above))).trans (I.base.keep b o e n hb hx)
  ·obtain ⟨sl, e1⟩ := I.base.slot b o e n hb hx
   exact ⟨sl, (hs.2 b (Nat.ne_of_lt (Nat.lt_of_lt_of_le (Heap.lt_size e) I.ok.above))).trans e1⟩
  ·obtain ⟨o', e1⟩ := I.base.there b o e hx
   exact ⟨o', (hs.2 b (Nat.ne_of_lt (Nat.lt_of_lt_of_le (Heap.lt_size e) I.ok.above))).trans e1⟩
  ·by_cases hj : j = i
   ·subst hj
    rw [hi] at e1; cases e1
    rw [List.getElem?_set_self FN] at e2
    cases e2
    exact ⟨u, r, .inl ⟨hk, by simp⟩⟩
   ·rw [List.getElem?_set_ne (Ne.symm hj)] at e2
    obtain ⟨u', r', q⟩ := hl j y v' e1 e2 e3
    refine ⟨u', r', ?_⟩
    rcases q with ⟨k, e⟩ | ⟨k, c, e, z⟩
    ·refine .inl ⟨k, ?_⟩
     have : y ≠ x := fun e => hj (yy hN e1 (e ▸ hi))
     simp [this, e]
    ·exact .inr ⟨k, c, e, z.sameBut hs (fe y c e)⟩
  ·obtain ⟨w', z⟩ := I.cell y c e
   exact ⟨w', z.sameBut hs (fe y c e)⟩
  ·obtain ⟨e, n, ne, nf, d⟩ := I.pin p hp
   exact ⟨(hs.2 p.1 ne).trans e, n, ne, nf, d⟩
 ·have yB : X.fn x = true := by
   rcases hf with z | z
   ·exact z
   ·rw [z] at hk; cases hk
  obtain ⟨c, hc⟩ := I.ok.has x (.inl hk)
  obtain ⟨w', z⟩ := I.cell x c hc
  refine wpAny_storeName_cell I.ok.kind hk hc z (fun h' jU hs => ?_)
  obtain ⟨oc, hoc, hocd⟩ := id z
  refine h { s with heap := h' } ⟨I.ok, I.os, I.bare, ⟨fun b o e n hb hx => ?_, fun b o e n hb hx => ?_, I.base.free, fun b o e hx => ?_, I.base.cb, I.base.cc, I.base.cB⟩, ⟨m, hn.sameBut hs (Ne.symm (fe x c hc)), fun j y v' e1 e2 e3 => ?_⟩, fun y c' e => ?_, I.free, I.cS, fun p hp => ?_, tracked ⟨oc, hoc, I.cS x c hc⟩ hs, by simpa using I.len⟩ ⟨c, hs, .inr hc⟩
  ·exact (hs.2 b (Nat.ne_of_lt (Nat.lt_of_lt_of_le (Heap.lt_size e) (I.ok.cab x c yB hc)))).trans (I.base.keep b o e n hb hx)
  ·obtain ⟨sl, e1⟩ := I.base.slot b o e n hb hx
   exact ⟨sl, (hs.2 b (Nat.ne_of_lt (Nat.lt_of_lt_of_le (Heap.lt_size e) (I.ok.cab x c yB hc)))).trans e1⟩
  ·obtain ⟨o', e1⟩ := I.base.there b o e hx
   exact ⟨o', (hs.2 b (Nat.ne_of_lt (Nat.lt_of_lt_of_le (Heap.lt_size e) (I.ok.cab x c yB hc)))).trans e1⟩
  ·by_cases hj : j = i
   ·subst hj
    rw [hi] at e1; cases e1
    rw [List.getElem?_set_self FN] at e2
    cases e2
    exact ⟨u, r, .inr ⟨.inl hk, c, hc, jU⟩⟩
   ·rw [List.getElem?_set_ne (Ne.symm hj)] at e2
    obtain ⟨u', r', q⟩ := hl j y v' e1 e2 e3
    refine ⟨u', r', ?_⟩
    rcases q with q | ⟨k, c', e, z'⟩
    ·exact .inl q
    ·refine .inr ⟨k, c', e, z'.sameBut hs ?_⟩
     rintro rfl
     exact hj (yy hN e1 (I.ok.inj _ _ _ e hc ▸ hi))
  ·by_cases hcc : c' = c
   ·subst hcc; exact ⟨_, jU⟩
   ·obtain ⟨w2, z2⟩ := I.cell y c' e
    exact ⟨w2, z2.sameBut hs hcc⟩
  ·obtain ⟨e, n, ne, nf, d⟩ := I.pin p hp
   refine ⟨(hs.2 p.1 ?_).trans e, n, ne, nf, d⟩
   intro q
   rw [q, hoc] at e
   have q' : oc = p.2 := Option.some.inj e
   exact d w' (by rw [<- q']; exact hocd)
theorem yC {M : Model} {A : Around} {E : Value -> Shared -> Prop} {i : Nat} {x : Str} {v : V} {u : Value} {Q : Unit -> Shared -> Prop} (I : Inv X pins σ H s) (hN : X.N.Nodup) (hi : X.N[i]? = some x) (hx : Loc X.env.scope x) (r : RelV v u)
 (h : ∀ s', Inv X pins (σ.set i (some v)) H s' -> Q () s') (hf : X.fn x = true ∨ X.env.scope.names.lookup x = some .local := by first | exact .inl rfl | exact .inr rfl | assumption) : wpAny M A (storeName X.env x u) Q E s :=
 Mh I hN hi hx r (fun s' I' _ => h s' I') hf
theorem Inv.sj {s' : Shared} {ch : List Addr} (I : Inv X pins σ H s) (ho : s'.os = s.os) (u : Un (aT X.stack) ch H H' s.heap s'.heap) (ar : bM X.prog X.w H' s'.heap) (hg : AllBare s'.gens)
 (fJ : ∀ b ∈ ch, (b ∈ X.ex ∨ X.s₀.heap.objs.size <= b) /\ b ≠ X.env.locals /\ (∀ x c, X.env.cells.lookup x = some c -> c ≠ b) /\ ∀ p ∈ X.pn ++ pins, p.1 ≠ b) : Inv X pins σ H' s' := by
 obtain ⟨h', g', d', t', o'⟩ := s'
 have e : o' = s.os := ho
 subst e
 exact I.call (g' := g') (t' := t') (d' := d') u ar hg fJ
end
noncomputable abbrev XK := Value -> Option Addr -> Hp -> Prop
noncomputable abbrev St := List (Option V)
noncomputable abbrev VK := V -> Hp -> Prop
noncomputable abbrev TE := St -> Hp -> VK -> Prop
noncomputable abbrev TT := St -> Hp -> (Bool -> Hp -> Prop) -> Prop
noncomputable abbrev TA := St -> Hp -> (List V -> Hp -> Prop) -> Prop
structure Ends where
 nx : St -> Hp -> Prop
 rt : VK
 bk : St -> Hp -> Prop := fun _ _ => False
 ct : St -> Hp -> Prop := fun _ _ => False
noncomputable abbrev TS := Ends -> St -> Hp -> Prop
noncomputable def EP (X : Cx) (pins : List (Addr × Obj)) (σ : St) (Q : VK) (u : Value) (s' : Shared) : Prop := ∃ v H', Inv X pins σ H' s' /\ RelV v u /\ Q v H'
noncomputable def TP (X : Cx) (pins : List (Addr × Obj)) (σ : St) (Q : Bool -> Hp -> Prop) (b : Bool) (s' : Shared) : Prop := ∃ H', Inv X pins σ H' s' /\ Q b H'
noncomputable def AP (X : Cx) (pins : List (Addr × Obj)) (σ : St) (Q : List V -> Hp -> Prop) (us : List Value) (s' : Shared) : Prop := ∃ vs H', Inv X pins σ H' s' /\ Vals vs us /\ Q vs H'
noncomputable def SP (X : Cx) (pins : List (Addr × Obj)) (D : Ends) (f : Flow) (s' : Shared) : Prop :=
 match f with
 | .next => ∃ σ' H', Inv X pins σ' H' s' /\ D.nx σ' H'
 | .brk => ∃ σ' H', Inv X pins σ' H' s' /\ D.bk σ' H'
 | .cont => ∃ σ' H', Inv X pins σ' H' s' /\ D.ct σ' H'
 | .ret u => ∃ v σ' H', Inv X pins σ' H' s' /\ RelV v u /\ D.rt v H'
noncomputable def PE (X : Cx) (e : Expr) (t : TE) : Prop :=
 ∀ (pins : List (Addr × Obj)) (s : Shared) (σ : St) (H : Hp) (Q : VK), Inv X pins σ H s -> t σ H Q -> wpAny (model X.prog X.w) X.A (eval e X.env) (EP X pins σ Q) X.xe s
noncomputable def PT (X : Cx) (e : Expr) (t : TT) : Prop :=
 ∀ (pins : List (Addr × Obj)) (s : Shared) (σ : St) (H : Hp) (Q : Bool -> Hp -> Prop), Inv X pins σ H s -> t σ H Q -> wpAny (model X.prog X.w) X.A (isTrue e X.env (eval e X.env)) (TP X pins σ Q) X.xe s
noncomputable def PW (X : Cx) (e : Expr) (t : TT) : Prop :=
 ∀ (whole : Sem Value) (pins : List (Addr × Obj)) (s : Shared) (σ : St) (H : Hp) (Q : Bool -> Hp -> Prop), Inv X pins σ H s -> t σ H Q -> wpAny (model X.prog X.w) X.A (isTrue e X.env whole) (TP X pins σ Q) X.xe s
theorem PW.pt {X : Cx} {e : Expr} {t : TT} (h : PW X e t) : PT X e t := h _
noncomputable def PA (X : Cx) (es : List Expr) (t : TA) : Prop :=
 ∀ (pos : Pos) (pins : List (Addr × Obj)) (s : Shared) (σ : St) (H : Hp) (Q : List V -> Hp -> Prop), Inv X pins σ H s -> t σ H Q -> wpAny (model X.prog X.w) X.A (spliced (backTo pos (starEach es X.env))) (AP X pins σ Q) X.xe s
noncomputable def PS (X : Cx) (st : Stmt) (t : TS) : Prop :=
 ∀ (pins : List (Addr × Obj)) (s : Shared) (σ : St) (H : Hp) (D : Ends), Inv X pins σ H s -> t D σ H -> wpAny (model X.prog X.w) X.A (exec st X.env) (SP X pins D) X.xe s
noncomputable def bg (X : Cx) (st : List Stmt) (t : TS) : Prop :=
 ∀ (pins : List (Addr × Obj)) (s : Shared) (σ : St) (H : Hp) (D : Ends), Inv X pins σ H s -> t D σ H -> wpAny (model X.prog X.w) X.A (execs st X.env) (SP X pins D) X.xe s
theorem aB {α : Type} {t : Sem α} {Q Q' : α -> Shared -> Prop} {M : Model} {A : Around} {E : Value -> Shared -> Prop} {s : Shared} (h : wpAny M A t Q E s) (hQ : ∀ a s, Q a s -> Q' a s) : wpAny M A t Q' E s := wpAny_mono h hQ fun _ _ x => x
end L2
namespace L2
open PySem PySem.Spec PyProof.Rows
section
variable {X : Cx}
noncomputable def k8 (i : Nat) : TE := fun σ H Q => ∃ v, σ[i]? = some (some v) /\ Q v H
noncomputable def tC (v : V) : TE := fun _ H Q => Q v H
theorem Mi {i : Nat} {x : Str} {pos : Pos} (hN : X.N[i]? = some x) (hv : yu X.env.scope x) (hd : (x == ("__debug__" : Str)) = false := by decide) (eH : (x == ("__classdict__" : Str)) = false := by decide) : PE X (.Name x pos) (k8 i) := by
 intro pins s σ H Q I h
 obtain ⟨v, e, h⟩ := h
 obtain ⟨m, hn, hl⟩ := I.loc
 obtain ⟨u, r, l⟩ := hl i x v hN e hv
 have fin : EP X pins σ Q u s := ⟨v, H, I, r, h⟩
 rcases l with ⟨hk, hm⟩ | ⟨hk, c, hc, hcell⟩
 ·exact wpAny_Name (wpAny_loadName_local I.ok.kind hk hn hm fin) hd
 ·rcases hk with hk | hk
  ·exact wpAny_Name (wpAny_loadName_cell I.ok.kind hk hc hcell fin) hd
  ·exact wpAny_Name (wpAny_loadName_free I.ok.kind hk hc hcell fin eH) hd
theorem ae {i j pos} : PE X (.Constant (.int i) j pos) (tC (.int i)) := fun _ _ _ H _ I h => wpAny_Constant_int ⟨.int i, H, I.tok _, ⟨_, rfl⟩, h⟩
theorem cT {b j pos} : PE X (.Constant (.bool b) j pos) (tC (.bl b)) := fun _ _ _ H _ I h => Constant_bool ⟨.bl b, H, I, rfl, h⟩
theorem bA {j pos} : PE X (.Constant .none j pos) (tC .non) := fun _ _ _ H _ I h => Constant_none ⟨.non, H, I, rfl, h⟩
theorem bq {x j pos} : PE X (.Constant (.str x) j pos) (tC (.str x)) := fun _ _ _ H _ I h => Calls.Constant_str ⟨.str x, H, I.tok _, ⟨_, rfl⟩, h⟩
noncomputable def Gl (X : Cx) (x : Str) : Prop := X.env.kindOf x = some .globalImplicit
theorem oT {E : Value -> Shared -> Prop} {pins : List (Addr × Obj)} {s : Shared} {σ : St} {H : Hp} {x : Str} {u : Value} {pos : Pos} {Q : Value -> Shared -> Prop} (I : Inv X pins σ H s) (hg : Gl X x) (hm : X.mg x = some u) (h : Q u s)
 (hd : (x == ("__debug__" : Str)) = false := by decide) : wpAny (model X.prog X.w) X.A (eval (.Name x pos) X.env) Q E s :=
 Calls.Name_function_global I.ok.kind hg (Calls.loadGlobal_global (by rw [I.ok.glob]; exact I.mod.glob.keeps I.bk) hm h) hd
theorem dX {E : Value -> Shared -> Prop} {pins : List (Addr × Obj)} {s : Shared} {σ : St} {H : Hp} {x : Str} {u : Value} {pos : Pos} {Q : Value -> Shared -> Prop} (I : Inv X pins σ H s) (hg : Gl X x) (hm : X.mg x = none) (hv : bootBuiltins x = some u) (h : Q u s)
 (hn : x ≠ "__name__" := by decide) (hd : (x == ("__debug__" : Str)) = false := by decide) : wpAny (model X.prog X.w) X.A (eval (.Name x pos) X.env) Q E s := by
 obtain ⟨mb, h1, h2⟩ := I.mod.blt
 exact Calls.Name_function_global I.ok.kind hg (Calls.loadGlobal_builtin (by rw [I.ok.glob]; exact I.mod.glob.keeps I.bk) hm (by rw [I.ok.blt]; exact h1.keeps I.bk) ((h2 x hn).trans hv) h) hd
theorem dt {x : Str} {v : V} {u : Value} {pos : Pos} (hg : Gl X x) (hm : X.mg x = some u) (r : RelV v u) (hd : (x == ("__debug__" : Str)) = false := by decide) : PE X (.Name x pos) (tC v) :=
 fun _ _ _ H _ I h => oT I hg hm ⟨v, H, I, r, h⟩ hd
theorem jV {x : Str} {v : V} {u : Value} {pos : Pos} (hg : Gl X x) (hm : X.mg x = none) (hv : bootBuiltins x = some u) (r : RelV v u) (hn : x ≠ "__name__" := by decide) (hd : (x == ("__debug__" : Str)) = false := by decide) : PE X (.Name x pos) (tC v) :=
 fun _ _ _ H _ I h => dX I hg hm hv ⟨v, H, I, r, h⟩ hn hd
variable {a b : Expr} {ta tb : TE} {pos : Pos}
noncomputable def PC (X : Cx) (op : CmpOp) (a b : Expr) (t : TE) : Prop :=
 ∀ (pins : List (Addr × Obj)) (s : Shared) (σ : St) (H : Hp) (Q : VK), Inv X pins σ H s -> t σ H Q ->
  wpAny (model X.prog X.w) X.A (eval a X.env) (fun v s₁ => wpAny (model X.prog X.w) X.A (eval b X.env) (fun u s₂ => wpAny (model X.prog X.w) X.A (compareOp op v u) (EP X pins σ Q) X.xe s₂) X.xe s₁) X.xe s
theorem FO (b : Expr) {op : CmpOp} (h : op ≠ .In) (h2 : op ≠ .NotIn) : behindInMarks op b = false := by
 have e1 : (op == CmpOp.In) = false := by cases op <;> first | rfl | exact absurd rfl h
 have e2 : (op == CmpOp.NotIn) = false := by cases op <;> first | rfl | exact absurd rfl h2
 cases b <;> simp [behindInMarks, e1, e2]
noncomputable def oU (ta : TE) : TE := fun σ H Q => ta σ H fun x H1 => Q (.bl (decide (x = .non))) H1
noncomputable def oV (ta : TE) : TE := fun σ H Q => ta σ H fun x H1 => Q (.bl (!decide (x = .non))) H1
theorem RelV.FP {x : V} {v : Value} (r : RelV x v) : (v == Value.none) = decide (x = .non) := by
 cases x with
 | non => cases r; rfl
 | bl _ => cases r; rfl
 | int _ => obtain ⟨t, rfl⟩ := r; rfl
 | str _ => obtain ⟨t, rfl⟩ := r; rfl
 | byt _ => obtain ⟨t, rfl⟩ := r; rfl
 | flt _ => obtain ⟨t, rfl⟩ := r; rfl
 | ref _ => cases r; rfl
 | ty _ => cases r; rfl
theorem bZ {j pos'} (ha : PE X a ta) : PC X .Is a (.Constant .none j pos') (oU ta) := by
 intro pins s σ H Q I h
 refine aB (ha pins s σ H _ I h) fun v s1 ⟨x, H1, I1, r1, q1⟩ => ?_
 exact Constant_none (is_none_gen ⟨.bl _, H1, I1, by rw [r1.FP]; rfl, q1⟩)
theorem cC {j pos'} (ha : PE X a ta) : PC X .IsNot a (.Constant .none j pos') (oV ta) := by
 intro pins s σ H Q I h
 refine aB (ha pins s σ H _ I h) fun v s1 ⟨x, H1, I1, r1, q1⟩ => ?_
 exact Constant_none (isnot_none_gen ⟨.bl _, H1, I1, by rw [r1.FP]; rfl, q1⟩)
noncomputable def tB (t : TE) : TT := fun σ H Q => t σ H fun x H1 => ∃ c, x = .bl c /\ Q c H1
theorem oW {op : CmpOp} {t : TE} (h : PC X op a b t) (h1 : behindInMarks op b = false := by first | exact FO _ (by decide) (by decide) | rfl) : PE X (.Compare a [op] [b] pos) t := fun pins s σ H Q I hw => wpAny_Compare1 (h pins s σ H Q I hw) h1
theorem bp {op : CmpOp} {t : TE} (h : PC X op a b t) (h1 : behindInMarks op b = false := by first | exact FO _ (by decide) (by decide) | rfl) : PT X (.Compare a [op] [b] pos) (tB t) := by
 intro pins s σ H Q I hw
 refine wpAny_isTrue_Compare1 (aB (h pins s σ H _ I hw) fun v s1 h1 => aB h1 fun u s2 h2 => aB h2 fun c s3 ⟨x, H1, I1, r1, q1⟩ => ?_) h1
 obtain ⟨d, rfl, q⟩ := q1
 cases r1
 exact wpAny_truthy_bool ⟨H1, I1, q⟩
theorem dY {e : Expr} {t : TE} (h : PE X e t) (he : ∀ whole, isTrue e X.env whole = (do let v <- whole; standAt e.pos; holding [v] (truthy v)) := by intro _; rfl) : PT X e (tB t) := by
 intro pins s σ H Q I hw
 refine isTrue_plain (aB (h pins s σ H _ I hw) fun v s1 ⟨x, H1, I1, r1, q1⟩ => ?_) (he _)
 obtain ⟨d, rfl, q⟩ := q1
 cases r1
 exact wpAny_truthy_bool ⟨H1, I1, q⟩
variable {tA sk : TT} {rest : List Expr}
noncomputable def oX (t u : TT) : TT := fun σ H Q => t σ H fun c H1 => if c = true then u σ H1 Q else Q false H1
noncomputable def oY (t u : TT) : TT := fun σ H Q => t σ H fun c H1 => if c = true then Q true H1 else u σ H1 Q
noncomputable def oZ (t : TT) : TT := fun σ H Q => t σ H fun c H1 => Q (!c) H1
theorem dZ (ha : PT X a tA) : PW X (.BoolOp .And [a] pos) tA := by
 intro wh pins s σ H Q I h
 refine isTrue_and (aB (ha pins s σ H Q I h) fun c s1 e => ?_)
 cases c with
 | true => exact isTrue_and_nil e
 | false => exact e
theorem dc (ha : PT X a tA) : PW X (.BoolOp .Or [a] pos) tA := by
 intro wh pins s σ H Q I h
 refine isTrue_or (aB (ha pins s σ H Q I h) fun c s1 e => ?_)
 cases c with
 | false => exact isTrue_or_nil e
 | true => exact e
theorem du (ha : PT X a tA) (hb : PW X (.BoolOp .And (b :: rest) pos) sk) : PW X (.BoolOp .And (a :: b :: rest) pos) (oX tA sk) := by
 intro wh pins s σ H Q I h
 refine isTrue_and (aB (ha pins s σ H _ I h) fun c s1 ⟨H1, I1, q1⟩ => ?_)
 cases c with
 | true => exact hb wh pins s1 σ H1 Q I1 q1
 | false => exact ⟨H1, I1, q1⟩
theorem cG (ha : PT X a tA) (hb : PW X (.BoolOp .Or (b :: rest) pos) sk) : PW X (.BoolOp .Or (a :: b :: rest) pos) (oY tA sk) := by
 intro wh pins s σ H Q I h
 refine isTrue_or (aB (ha pins s σ H _ I h) fun c s1 ⟨H1, I1, q1⟩ => ?_)
 cases c with
 | true => exact ⟨H1, I1, q1⟩
 | false => exact hb wh pins s1 σ H1 Q I1 q1
theorem dI (ha : PT X a tA) : PT X (.UnaryOp .Not a pos) (oZ tA) := by
 intro pins s σ H Q I h
 exact isTrue_not (ha pins s σ H (fun c H1 => Q (!c) H1) I h)
noncomputable def o4 (ta tb : TE) : TE := fun σ H Q => ta σ H fun x H1 => ∃ c, x = .bl c /\ if c = true then tb σ H1 Q else Q (.bl false) H1
noncomputable def o5 (ta tb : TE) : TE := fun σ H Q => ta σ H fun x H1 => ∃ c, x = .bl c /\ if c = true then Q (.bl true) H1 else tb σ H1 Q
noncomputable def o6 (ta : TE) : TE := fun σ H Q => ta σ H fun x H1 => ∃ c, x = .bl c /\ Q (.bl (!c)) H1
theorem fL {op} {t : TE} (h : PE X a t) : PE X (.BoolOp op [a] pos) t := fun pins s σ H Q I hw => BoolOp_one (h pins s σ H Q I hw)
theorem eI (ha : PE X a ta) (hb : PE X (.BoolOp .And (b :: rest) pos) tb) : PE X (.BoolOp .And (a :: b :: rest) pos) (o4 ta tb) := by
 intro pins s σ H Q I h
 refine BoolOp_and (aB (ha pins s σ H _ I h) fun v s1 ⟨x, H1, I1, r1, q1⟩ => ?_)
 obtain ⟨c, rfl, q1⟩ := q1
 cases r1
 refine wpAny_truthy_bool ?_
 cases c with
 | true => exact hb pins s1 σ H1 Q I1 q1
 | false => exact ⟨.bl false, H1, I1, rfl, q1⟩
theorem Mj (ha : PE X a ta) (hb : PE X (.BoolOp .Or (b :: rest) pos) tb) : PE X (.BoolOp .Or (a :: b :: rest) pos) (o5 ta tb) := by
 intro pins s σ H Q I h
 refine BoolOp_or (aB (ha pins s σ H _ I h) fun v s1 ⟨x, H1, I1, r1, q1⟩ => ?_)
 obtain ⟨c, rfl, q1⟩ := q1
 cases r1
 refine wpAny_truthy_bool ?_
 cases c with
 | false => exact hb pins s1 σ H1 Q I1 q1
 | true => exact ⟨.bl true, H1, I1, rfl, q1⟩
theorem Ml (ha : PE X a ta) : PE X (.UnaryOp .Not a pos) (o6 ta) := by
 intro pins s σ H Q I h
 refine UnaryOp_ (aB (ha pins s σ H _ I h) fun v s1 ⟨x, H1, I1, r1, q1⟩ => ?_)
 obtain ⟨c, rfl, q1⟩ := q1
 cases r1
 exact not_of (wpAny_truthy_bool ⟨.bl (!c), H1, I1, rfl, q1⟩)
noncomputable def o7 (t : TT) (ta tb : TE) : TE := fun σ H Q => t σ H fun c H1 => if c = true then ta σ H1 Q else tb σ H1 Q
theorem k9 {c : Expr} (hc : PT X c tA) (ha : PE X a ta) (hb : PE X b tb) : PE X (.IfExp c a b pos) (o7 tA ta tb) := by
 intro pins s σ H Q I h
 refine wpAny_IfExp (aB (hc pins s σ H _ I h) fun d s1 ⟨H1, I1, q1⟩ => ?_)
 cases d with
 | true => exact ha pins s1 σ H1 Q I1 q1
 | false => exact hb pins s1 σ H1 Q I1 q1
end
end L2
namespace L2
open PySem PySem.Spec PyProof.Rows
noncomputable def ah (K : PySem.W.Frag) (H : Hp) (a : Addr) (xs : List V) : Prop :=
 Rd H a (.lst xs) ∨
  ∃ (o : Obj) (ag : Array Value) (n : Nat), K.lookup a = some o /\ o.cls = .type "list" /\ o.dict = none /\ o.data = .seq ag n /\ ag.size <= sizeLine /\ Vals xs ag.toList
noncomputable def ai (K : PySem.W.Frag) (H : Hp) (a : Addr) (xs : List V) : Prop :=
 Rd H a (.tup xs) ∨
  ∃ (o : Obj) (ag : Array Value) (n : Nat), K.lookup a = some o /\ o.cls = .type "tuple" /\ o.data = .seq ag n /\ ag.size <= sizeLine /\ Vals xs ag.toList
noncomputable def Mm : Value -> Option V
 | .none => some .non
 | .bool b => some (.bl b)
 | .int i _ => some (.int i)
 | .str x _ => some (.str x)
 | .bytes b _ => some (.byt b)
 | .float b _ => some (.flt b)
 | .ref a => some (.ref a)
 | .type n => some (.ty n)
 | _ => none
theorem RelV.abs {x : V} {u : Value} (r : RelV x u) : Mm u = some x := by
 cases x with
 | non => cases r; rfl
 | bl _ => cases r; rfl
 | int _ => obtain ⟨t, rfl⟩ := r; rfl
 | str _ => obtain ⟨t, rfl⟩ := r; rfl
 | byt _ => obtain ⟨t, rfl⟩ := r; rfl
 | flt _ => obtain ⟨t, rfl⟩ := r; rfl
 | ref _ => cases r; rfl
 | ty _ => cases r; rfl
theorem RelV.inj {x y : V} {u : Value} (r : RelV x u) (q : RelV y u) : x = y := Option.some.inj (r.abs.symm.trans q.abs)
theorem Vals.inj : ∀ {xs ys : List V} {us : List Value}, Vals xs us -> Vals ys us -> xs = ys
 | _, _, _, .nil, .nil => rfl
 | _, _, _, .cons r t, .cons r' t' => by rw [r.inj r', Vals.inj t t']
section
variable {X : Cx} {pins : List (Addr × Obj)} {σ : St} {H : Hp} {s : Shared} {a : Addr} {xs ys : List V}
theorem ah.of {K : PySem.W.Frag} (h : H a = some (.lst xs)) : ah K H a xs := .inl (.inl h)
theorem ai.of {K : PySem.W.Frag} (h : H a = some (.tup xs)) : ai K H a xs := .inl (.inl h)
theorem Inv.list (I : Inv X pins σ H s) (h : ah X.K H a xs) : ∃ ag : List Value, Vals xs ag /\ PlainL s.heap a ag.toArray /\ xs.length <= sizeLine := by
 rcases h with h | ⟨o, ag, n, hk, hc, hd, hs, hz, r⟩
 ·obtain ⟨z, ag, n, r, e⟩ := h.ok I.ar
  exact ⟨ag, r, ⟨_, n, e, rfl, rfl, rfl⟩, z⟩
 ·refine ⟨ag.toList, r, ⟨o, n, I.bP a o hk, hc, hd, by simpa using hs⟩, ?_⟩
  have e := r.length
  simp only [Array.length_toList] at e
  omega
theorem Inv.tuple (I : Inv X pins σ H s) (h : ai X.K H a xs) : ∃ ag : List Value, Vals xs ag /\ IsTup s.heap a ag.toArray /\ xs.length <= sizeLine := by
 rcases h with h | ⟨o, ag, n, hk, hc, hs, hz, r⟩
 ·obtain ⟨z, ag, r, p⟩ := h.ok I.ar
  exact ⟨ag, r, p, z⟩
 ·refine ⟨ag.toList, r, ⟨o, I.bP a o hk, hc, n, by simpa using hs⟩, ?_⟩
  have e := r.length
  simp only [Array.length_toList] at e
  omega
theorem Inv.o8 (I : Inv X pins σ H s) (h : ah X.K H a xs) (h' : ah X.K H a ys) : xs = ys := by
 obtain ⟨ag, r, ⟨o, n, e, _, _, d⟩, _⟩ := I.list h
 obtain ⟨its', r', ⟨o', n', e', _, _, d'⟩, _⟩ := I.list h'
 rw [e] at e'; cases e'
 rw [d] at d'
 injection d' with d1 _
 have : ag = its' := by simpa using congrArg Array.toList d1
 subst this
 exact r.inj r'
theorem Inv.Mn (I : Inv X pins σ H s) (h : ai X.K H a xs) (h' : ai X.K H a ys) : xs = ys := by
 obtain ⟨ag, r, ⟨o, e, _, n, d⟩, _⟩ := I.tuple h
 obtain ⟨its', r', ⟨o', e', _, n', d'⟩, _⟩ := I.tuple h'
 rw [e] at e'; cases e'
 rw [d] at d'
 injection d' with d1 _
 have : ag = its' := by simpa using congrArg Array.toList d1
 subst this
 exact r.inj r'
end
noncomputable abbrev Cx.fM (X : Cx) (E : Value -> Shared -> Prop) : Cx := { X with xe := E }
noncomputable abbrev Cx.sm (X : Cx) : Cx := X.fM fun _ _ => False
theorem Cx.Ok.fM {X : Cx} (ok : X.Ok) (E : Value -> Shared -> Prop) : (X.fM E).Ok :=
 ⟨ok.mod, ok.kind, ok.glob, ok.blt, ok.above, ok.inj, ok.has, ok.cab, ok.hd, ok.frames, ok.stk, ok.exf, ok.bs, ok.bsz, ok.noex, ok.exfs, ok.dq, ok.frf⟩
theorem Cx.Ok.gQ {X : Cx} {E : Value -> Shared -> Prop} (ok : (X.fM E).Ok) : X.Ok :=
 ⟨ok.mod, ok.kind, ok.glob, ok.blt, ok.above, ok.inj, ok.has, ok.cab, ok.hd, ok.frames, ok.stk, ok.exf, ok.bs, ok.bsz, ok.noex, ok.exfs, ok.dq, ok.frf⟩
section
variable {X : Cx} {pins : List (Addr × Obj)} {σ : St} {H : Hp} {s : Shared} {E : Value -> Shared -> Prop}
theorem Inv.fM (I : Inv X pins σ H s) (E : Value -> Shared -> Prop) : Inv (X.fM E) pins σ H s := ⟨I.ok.fM E, I.os, I.bare, I.base, I.loc, I.cell, I.free, I.cS, I.pin, I.ar, I.len⟩
theorem Inv.gQ (I : Inv (X.fM E) pins σ H s) : Inv X pins σ H s := ⟨I.ok.gQ, I.os, I.bare, I.base, I.loc, I.cell, I.free, I.cS, I.pin, I.ar, I.len⟩
theorem SP.gQ {D : Ends} {f : Flow} {s' : Shared} (h : SP (X.fM E) pins D f s') : SP X pins D f s' := by
 cases f with
 | next => obtain ⟨σ', H', I, q⟩ := h; exact ⟨σ', H', I.gQ, q⟩
 | brk => obtain ⟨σ', H', I, q⟩ := h; exact ⟨σ', H', I.gQ, q⟩
 | cont => obtain ⟨σ', H', I, q⟩ := h; exact ⟨σ', H', I.gQ, q⟩
 | ret u => obtain ⟨v, σ', H', I, r, q⟩ := h; exact ⟨v, σ', H', I.gQ, r, q⟩
theorem bg.sm {st : List Stmt} {t : TS} (h : bg X.sm st t) : bg X st t := fun pins s σ H D I hw =>
 wpAny_mono (h pins s σ H D (I.fM _) hw) (fun _ _ q => q.gQ) fun _ _ z => False.elim z
end
section
variable {X : Cx} {st : Stmt} {rest : List Stmt} {t u : TS} {e : Expr} {te : TE} {pos : Pos}
noncomputable def o9 : TS := fun D σ H => D.nx σ H
noncomputable def lb (t u : TS) : TS := fun D σ H => t { D with nx := u D } σ H
theorem aO : bg X [] o9 := fun _ _ σ H _ I h => wpAny_execs_nil ⟨σ, H, I, h⟩
theorem aj (h1 : PS X st t) (h2 : bg X rest u) : bg X (st :: rest) (lb t u) := by
 intro pins s σ H D I h
 refine wpAny_execs_cons (aB (h1 pins s σ H { D with nx := u D } I h) fun f s1 q => ?_)
 cases f with
 | next =>
  obtain ⟨σ', H', I', q⟩ := q
  exact h2 pins s1 σ' H' D I' q
 | ret v => exact q
 | brk => exact q
 | cont => exact q
theorem av (h1 : PS X st t) : bg X [st] t := by
 intro pins s σ H D I h
 refine wpAny_execs_cons (aB (h1 pins s σ H D I h) fun f s1 q => ?_)
 cases f with
 | next => exact wpAny_execs_nil q
 | ret v => exact q
 | brk => exact q
 | cont => exact q
theorem Inv.quiet {pins : List (Addr × Obj)} {σ : St} {H : Hp} {s : Shared} (I : Inv X pins σ H s) : interactive X.env = false := by simp [interactive, I.ok.kind]
noncomputable def pd (te : TE) : TS := fun D σ H => te σ H fun _ H1 => D.nx σ H1
theorem gR (he : PE X e te) (hs : swapsWith e none pos.line X.env = pure false := by rfl) : PS X (.Expr e pos) (pd te) := by
 intro pins s σ H D I h
 exact wpAny_Expr_any (aB (he pins s σ H _ I h) fun v s1 ⟨x, H1, I1, r1, q1⟩ => ⟨σ, H1, I1, q1⟩) I.quiet hs
noncomputable def pe (te : TE) : TS := fun D σ H => te σ H D.rt
theorem aG (he : PE X e te) : PS X (.Return (some e) pos) (pe te) := by
 intro pins s σ H D I h
 exact wpAny_Return_some (aB (he pins s σ H _ I h) fun v s1 ⟨x, H1, I1, r1, q1⟩ => ⟨x, σ, H1, I1, r1, q1⟩)
noncomputable def pf (c : TT) (t u : TS) : TS := fun D σ H => c σ H fun b H1 => if b = true then t D σ H1 else u D σ H1
theorem aN {c : Expr} {a b : List Stmt} {tc : TT} (hc : PT X c tc) (ha : bg X a t) (hb : bg X b u) : PS X (.If c a b pos) (pf tc t u) := by
 intro pins s σ H D I h
 refine wpAny_If (aB (hc pins s σ H _ I h) fun d s1 ⟨H1, I1, q1⟩ => ?_)
 cases d with
 | true => exact ha pins s1 σ H1 D I1 q1
 | false => exact hb pins s1 σ H1 D I1 q1
noncomputable def Mo : TS := fun _ _ _ => False
theorem so {Mp : List Stmt} : bg X Mp Mo := fun _ _ _ _ _ _ h => h.elim
end
noncomputable abbrev TG := V -> St -> Hp -> (St -> Hp -> Prop) -> Prop
noncomputable abbrev jW := List V -> St -> Hp -> (St -> Hp -> Prop) -> Prop
noncomputable def PG (X : Cx) (target : Expr) (t : TG) : Prop :=
 ∀ (pins : List (Addr × Obj)) (s : Shared) (σ : St) (H : Hp) (v : V) (u : Value) (Q : St -> Hp -> Prop), Inv X pins σ H s -> RelV v u -> t v σ H Q ->
  wpAny (model X.prog X.w) X.A (assign target X.env u) (fun _ s' => ∃ σ' H', Inv X pins σ' H' s' /\ Q σ' H') X.xe s
noncomputable def sq (X : Cx) (ts : List Expr) (t : jW) : Prop :=
 ∀ (pins : List (Addr × Obj)) (s : Shared) (σ : St) (H : Hp) (vs : List V) (us : List Value) (Q : St -> Hp -> Prop), Inv X pins σ H s -> Vals vs us -> t vs σ H Q ->
  wpAny (model X.prog X.w) X.A (assignInOrder ((assignEach ts X.env).map (·.2)) us) (fun _ s' => ∃ σ' H', Inv X pins σ' H' s' /\ Q σ' H') X.xe s
noncomputable abbrev yD := V -> V -> V -> Hp -> (Hp -> Prop) -> Prop
noncomputable def FQ (X : Cx) (t : yD) : Prop :=
 ∀ (pins : List (Addr × Obj)) (s : Shared) (σ : St) (H : Hp) (o i v : V) (ov iv u : Value) (Q : Hp -> Prop), Inv X pins σ H s -> RelV o ov -> RelV i iv -> RelV v u -> t o i v H Q ->
  wpAny (model X.prog X.w) X.A (setItem ov iv u) (fun _ s' => ∃ H', Inv X pins σ H' s' /\ Q H') X.xe s
section
variable {X : Cx} {pos : Pos}
noncomputable def b6 (i : Nat) : TG := fun v σ H Q => Q (σ.set i (some v)) H
theorem bc {i : Nat} {x : Str} (hN : X.N.Nodup) (hi : X.N[i]? = some x) (hx : Loc X.env.scope x) (hf : X.fn x = true ∨ X.env.scope.names.lookup x = some .local := by first | exact .inl rfl | exact .inr rfl | assumption) : PG X (.Name x pos) (b6 i) := by
 intro pins s σ H v u Q I r h
 exact wpAny_assign_Name (yC I hN hi hx r (fun s' I' => ⟨_, H, I', h⟩) hf)
noncomputable def ff : jW := fun vs σ H Q => vs = [] /\ Q σ H
noncomputable def cf (t : TG) (u : jW) : jW := fun vs σ H Q => ∃ v r, vs = v :: r /\ t v σ H fun σ' H' => u r σ' H' Q
theorem d0 : sq X [] ff := by
 intro pins s σ H vs us Q I r h
 obtain ⟨e, h⟩ := h
 subst e
 cases r
 exact assignInOrder_nil ⟨σ, H, I, h⟩
theorem bE {e : Expr} {es : List Expr} {t : TG} {u : jW} (h1 : PG X e t) (h2 : sq X es u)
 (hs : (assignEach (e :: es) X.env).map (·.2) = assign e X.env :: (assignEach es X.env).map (·.2) := by rfl) : sq X (e :: es) (cf t u) := by
 intro pins s σ H vs us Q I r h
 obtain ⟨v, vr, e1, h⟩ := h
 subst e1
 cases r with
 | cons r rr =>
  rw [hs]
  refine assignInOrder_cons (aB (h1 pins s σ H _ _ _ I r h) fun _ s1 ⟨σ1, H1, I1, q1⟩ => ?_)
  exact h2 pins s1 σ1 H1 _ _ Q I1 rr q1
noncomputable def jX (K : PySem.W.Frag) (n : Nat) (t : jW) : TG := fun v σ H Q => ∃ a xs, v = .ref a /\ ai K H a xs /\ xs.length = n /\ t xs σ H Q
theorem d8 {es : List Expr} {k : Nat} {t : jW} {n : Nat} (hc : X.calm = true) (h : sq X es t)
 (hn : (assignEach es X.env).length = n := by rfl) (cn : (assignEach es X.env).findIdx? (·.1) = none := by rfl) : PG X (.Tuple es k pos) (jX X.K n t) := by
 intro pins s σ H v u Q I r hw
 obtain ⟨a, xs, e1, hq, hl, hw⟩ := hw
 subst e1
 cases r
 obtain ⟨ag, rv, ht, hz⟩ := I.tuple hq
 refine assign_Tuple_tuple (I.ok.hd hc) ht (by simp [hn, <- hl, rv.length]) cn fun h' hx => ?_
 have I1 : Inv X pins σ H { s with heap := h' } := I.kept (t' := s.toks) fun b o e => hx b o (Nat.ne_of_lt (Heap.lt_size e)) e
 exact h pins _ σ H xs _ Q I1 (by simpa using rv) hw
noncomputable def gq (to ti : TE) (t : yD) : TG := fun v σ H Q => to σ H fun o H1 => ti σ H1 fun i H2 => t o i v H2 fun H3 => Q σ H3
theorem yE {o i : Expr} {to ti : TE} {t : yD} (ho : PE X o to) (hi : PE X i ti) (hs : FQ X t)
 (ha : ∀ v, assign (.Subscript o i pos) X.env v = (do
   let ov <- holding [v] (eval o X.env)
   let iv <- holding [v, ov] (eval i X.env)
   standAt pos
   holding [v, ov, iv] (setItem ov iv v)
   release [v, ov, iv] []) := by intro _; rfl) : PG X (.Subscript o i pos) (gq to ti t) := by
 intro pins s σ H v u Q I r h
 rw [ha]
 refine wpAny_bind (wpAny_holding (aB (ho pins s σ H _ I h) fun ov s1 ⟨x, H1, I1, r1, q1⟩ => ?_))
 refine wpAny_bind (wpAny_holding (aB (hi pins s1 σ H1 _ I1 q1) fun iv s2 ⟨y, H2, I2, r2, q2⟩ => ?_))
 refine wpAny_bind (wpAny_standAt (wpAny_bind (wpAny_holding (aB (hs pins s2 σ H2 x y v ov iv u _ I2 r1 r2 r q2) fun _ s3 ⟨H3, I3, q3⟩ => ?_))))
 exact wpAny_release ⟨σ, H3, I3, q3⟩
noncomputable def lg (te : TE) (g : TG) : TS := fun D σ H => te σ H fun x H1 => g x σ H1 D.nx
theorem ph {tg e : Expr} {te : TE} {g : TG} (he : PE X e te) (hg : PG X tg g) (hs : swapsWithSole [tg] e pos.line X.env = pure false := by rfl) (hw : swappedStores [tg] e X.env = pure none := by rfl)
 (h1 : (assignEach [tg] X.env).map (·.2) = [assign tg X.env] := by rfl) : PS X (.Assign [tg] e pos) (lg te g) := by
 intro pins s σ H D I h
 refine wpAny_Assign_stores (aB (he pins s σ H _ I h) fun v s1 ⟨x, H1, I1, r1, q1⟩ => ?_) hs hw
 rw [h1]
 exact aB (hg pins s1 σ H1 x v _ I1 r1 q1) fun _ s2 q => q
theorem az {i : Nat} {x : Str} {e : Expr} {te : TE} {pos' : Pos} (hN : X.N.Nodup) (hi : X.N[i]? = some x) (hx : Loc X.env.scope x) (he : PE X e te) (hs : swapsWith e (some (.Name x pos')) pos.line X.env = pure false := by rfl) (hf : X.fn x = true ∨ X.env.scope.names.lookup x = some .local := by first | exact .inl rfl | exact .inr rfl | assumption) :
 PS X (.Assign [.Name x pos'] e pos) (lg te (b6 i)) := by
 intro pins s σ H D I h
 refine wpAny_Assign_Name (aB (he pins s σ H _ I h) fun v s1 ⟨y, H1, I1, r1, q1⟩ => ?_) hs
 exact yC I1 hN hi hx r1 (fun s2 I2 => ⟨_, H1, I2, q1⟩) hf
end
section
variable {X : Cx} {pos : Pos}
end
structure It where
 go : Nat -> Hp -> Prop
 yld : Nat -> Hp -> V -> Hp -> Prop
 stop : Nat -> Hp -> Prop
noncomputable def cp (X : Cx) (pins : List (Addr × Obj)) (H : Hp) (b : Addr) : Prop :=
 H b = none /\ b ≠ X.env.locals /\ b ∉ X.fs /\ (b ∈ X.ex ∨ X.s₀.heap.objs.size <= b) /\ (∀ x c, X.env.cells.lookup x = some c -> c ≠ b) /\ ∀ p ∈ X.pn ++ pins, p.1 ≠ b
theorem Inv.d9 {X : Cx} {pins : List (Addr × Obj)} {σ : St} {H H' : Hp} {s : Shared} {b : Addr} (I : Inv X pins σ H s) (hb : s.heap.objs.size <= b) (hn : H' b = none) : cp X pins H' b := by
 refine ⟨hn, Nat.ne_of_gt (Nat.lt_of_lt_of_le I.lt hb), I.yw hb, .inr (Nat.le_trans I.sz hb), fun x c e z => ?_, fun p hp z => ?_⟩
 ·obtain ⟨v, q⟩ := I.cell x c e
  exact absurd (Nat.lt_of_lt_of_le q.lt (by rw [z]; exact hb)) (Nat.lt_irrefl _)
 ·exact absurd (Nat.lt_of_lt_of_le (Heap.lt_size (I.pin p hp).1) (by rw [z]; exact hb)) (Nat.lt_irrefl _)
structure Turn (P : Program) (w : World) (K : PySem.W.Frag) (tg : Expr) (J : It) (fp : List Addr) (it : Addr) (tn : Nat -> Heap -> Prop) : Prop where
 mem : it ∈ fp
 obj : ∀ i h, tn i h -> ∀ b ∈ fp, ∃ o, h.get? b = some o /\ ∀ v, o.data ≠ .cell v
 keep : ∀ i h h', tn i h -> (∀ b ∈ fp, ∀ o, h.get? b = some o -> h'.get? b = some o) -> tn i h'
 item : ∀ (X : Cx), X.prog = P -> X.w = w -> X.K = K -> X.calm = true -> ∀ (i : Nat) (pins : List (Addr × Obj)) (s : Shared) (σ : St) (H : Hp) (E : Value -> Shared -> Prop), Inv X pins σ H s -> (∀ b ∈ fp, cp X pins H b) -> tn i s.heap -> J.go i H ->
  wpAny (model P w) X.A (pyNext (.ref it)) (fun r s1 => ∃ u, r = some u /\
   wpAny (model P w) X.A (letOwnedTupleGo tg (.ref it) u) (fun _ s2 => ∃ x H', Inv X pins σ H' s2 /\ RelV x u /\ J.yld i H x H' /\ tn (i + 1) s2.heap /\ ∀ b ∈ fp, H' b = none) E s1) E s
 done : ∀ (X : Cx), X.prog = P -> X.w = w -> X.K = K -> X.calm = true -> ∀ (i : Nat) (pins : List (Addr × Obj)) (s : Shared) (σ : St) (H : Hp) (E : Value -> Shared -> Prop), Inv X pins σ H s -> (∀ b ∈ fp, cp X pins H b) -> tn i s.heap -> J.stop i H ->
  wpAny (model P w) X.A (pyNext (.ref it)) (fun r s1 => r = none /\ Inv X pins σ H s1) E s
 self : ∀ (A : Around) (i : Nat) (s : Shared) (Q : Value -> Shared -> Prop) (E : Value -> Shared -> Prop), tn i s.heap -> Q (.ref it) s -> wpAny (model P w) A (pyIter (.ref it)) Q E s
noncomputable abbrev TI := St -> Hp -> (It -> Hp -> Prop) -> Prop
noncomputable def FR (X : Cx) (pins : List (Addr × Obj)) (σ : St) (tg : Expr) (R : It -> Hp -> Prop) (pj : Value) (s2 : Shared) : Prop :=
 ∃ (it : Addr) (fp : List Addr) (tn : Nat -> Heap -> Prop) (J : It) (H' : Hp), pj = .ref it /\ Inv X pins σ H' s2 /\ Turn X.prog X.w X.K tg J fp it tn /\ tn 0 s2.heap /\ (∀ b ∈ fp, cp X pins H' b) /\ R J H'
noncomputable def PI (X : Cx) (tg iter : Expr) (wi : TI) : Prop :=
 ∀ (pins : List (Addr × Obj)) (s : Shared) (σ : St) (H : Hp) (R : It -> Hp -> Prop), Inv X pins σ H s -> wi σ H R ->
  wpAny (model X.prog X.w) X.A (eval iter X.env) (fun v s1 => wpAny (model X.prog X.w) X.A (pyIter v) (FR X pins σ tg R) X.xe s1) X.xe s
theorem lh {M : Model} {A : Around} {E : Value -> Shared -> Prop} {s : Shared} {tg : Expr} {it : Addr} {u : Value} {o : Obj} {n : String} {vs : Array Value} {Q : Unit -> Shared -> Prop} (ho : s.heap.get? it = some o) (hc : o.cls = .type n) (hd : o.data = .fields vs)
 (hn : ["enumerate", "zip", "dict_itemiterator", "dict_reverseitemiterator", "odict_iterator", "itertools.zip_longest", "itertools.pairwise"].contains n = false) (hQ : Q () s) : wpAny M A (letOwnedTupleGo tg (.ref it) u) Q E s := by
 unfold letOwnedTupleGo
 cases tg <;> first
  | exact wpAny_pure hQ
  | (cases u <;> first
      | exact wpAny_pure hQ
      | (refine wpAny_bind (wpAny_load ho ?_)
         rw [hc, hd]
         show wpAny M A (if (["enumerate", "zip", "dict_itemiterator", "dict_reverseitemiterator", "odict_iterator", "itertools.zip_longest", "itertools.pairwise"].contains n && vs[0]? == some (rawInt _)) = true then _ else _) Q E s
         rw [if_neg (by intro h; rw [hn, Bool.false_and] at h; cases h)]
         exact wpAny_pure hQ))
noncomputable def fN (K : PySem.W.Frag) (a : Addr) : It :=
 ⟨fun i H => ∃ xs x, ah K H a xs /\ xs[i]? = some x, fun i H x H' => H' = H /\ ∀ xs, ah K H a xs -> xs[i]? = some x, fun i H => ∃ xs, ah K H a xs /\ xs.length <= i⟩
noncomputable def pq (K : PySem.W.Frag) (a : Addr) : It :=
 ⟨fun i H => ∃ xs x, ai K H a xs /\ xs[i]? = some x, fun i H x H' => H' = H /\ ∀ xs, ai K H a xs -> xs[i]? = some x, fun i H => ∃ xs, ai K H a xs /\ xs.length <= i⟩
noncomputable def fg (lo : Int) (n : Nat) : It := ⟨fun i _ => i < n, fun i H x H' => H' = H /\ x = .int (lo + i), fun i _ => n <= i⟩
theorem Mq {P : Program} {w : World} {K : PySem.W.Frag} {tg : Expr} (a it : Addr) : Turn P w K tg (fN K a) [it] it (fun i h => h.IsListIter it a i) where
 mem := by simp
 obj := fun i h st b hb => by
  have e : b = it := by simpa using hb
  subst e
  obtain ⟨o, e, c, d⟩ := st
  exact ⟨o, e, fun v z => by rw [d] at z; cases z⟩
 keep := fun i h h' st k => st.at fun o e => k it (by simp) o e
 item := by
  intro X hP hw hK hc i pins s σ H E I hf st hg
  subst hP hw hK
  obtain ⟨xs, x, hq, hx⟩ := hg
  obtain ⟨ag, rv, p, hz⟩ := I.list hq
  obtain ⟨u, hu, ru⟩ := rv.get hx
  obtain ⟨f0, f1, f2, f3, f4, f5⟩ := hf it (by simp)
  refine wpAny_pyNext_list_item st p.isList (x := u) (by simpa using hu) fun h' bH sb => ?_
  have I1 : Inv X pins σ H { s with heap := h' } := I.turned (t' := s.toks) (fun b o hb e => (sb.2 b hb).trans e) f0 f1 f3 f4 f5
  obtain ⟨o, e, c, d⟩ := id bH
  exact ⟨u, rfl, lh (s := { s with heap := h' }) e c d (by decide) ⟨x, H, I1, ru, ⟨rfl, fun ys hy => by rw [I.o8 hy hq]; exact hx⟩, bH, fun b hb => (hf b hb).1⟩⟩
 done := by
  intro X hP hw hK hc i pins s σ H E I hf st hg
  subst hP hw hK
  obtain ⟨xs, hq, hx⟩ := hg
  obtain ⟨ag, rv, p, hz⟩ := I.list hq
  obtain ⟨f0, f1, f2, f3, f4, f5⟩ := hf it (by simp)
  have hl := rv.length
  exact wpAny_pyNext_list_end (I.ok.hd hc) st p.isList (by simp; omega) fun h' eb => ⟨rfl, I.turned (t' := s.toks) (fun b o hb e => eb b o hb e) f0 f1 f3 f4 f5⟩
 self := fun _ _ _ _ _ st h => wpAny_pyIter_listiter st h
theorem Mr {P : Program} {w : World} {K : PySem.W.Frag} {tg : Expr} (a it : Addr) : Turn P w K tg (pq K a) [it] it (fun i h => h.IsTupleIter it a i) where
 mem := by simp
 obj := fun i h st b hb => by
  have e : b = it := by simpa using hb
  subst e
  obtain ⟨o, e, c, d⟩ := st
  exact ⟨o, e, fun v z => by rw [d] at z; cases z⟩
 keep := fun i h h' st k => st.at fun o e => k it (by simp) o e
 item := by
  intro X hP hw hK hc i pins s σ H E I hf st hg
  subst hP hw hK
  obtain ⟨xs, x, hq, hx⟩ := hg
  obtain ⟨ag, rv, p, hz⟩ := I.tuple hq
  obtain ⟨u, hu, ru⟩ := rv.get hx
  obtain ⟨f0, f1, f2, f3, f4, f5⟩ := hf it (by simp)
  refine wpAny_pyNext_tuple_item st (show s.heap.IsTuple a ag.toArray from p) (x := u) (by simpa using hu) fun h' bH sb => ?_
  have I1 : Inv X pins σ H { s with heap := h' } := I.turned (t' := s.toks) (fun b o hb e => (sb.2 b hb).trans e) f0 f1 f3 f4 f5
  obtain ⟨o, e, c, d⟩ := id bH
  exact ⟨u, rfl, lh (s := { s with heap := h' }) e c d (by decide) ⟨x, H, I1, ru, ⟨rfl, fun ys hy => by rw [I.Mn hy hq]; exact hx⟩, bH, fun b hb => (hf b hb).1⟩⟩
 done := by
  intro X hP hw hK hc i pins s σ H E I hf st hg
  subst hP hw hK
  obtain ⟨xs, hq, hx⟩ := hg
  obtain ⟨ag, rv, p, hz⟩ := I.tuple hq
  obtain ⟨f0, f1, f2, f3, f4, f5⟩ := hf it (by simp)
  have hl := rv.length
  exact wpAny_pyNext_tuple_end (I.ok.hd hc) st (show s.heap.IsTuple a ag.toArray from p) (by simp; omega) fun h' eb => ⟨rfl, I.turned (t' := s.toks) (fun b o hb e => eb b o hb e) f0 f1 f3 f4 f5⟩
 self := fun _ _ _ _ _ st h => wpAny_pyIter_tupleiter st h
theorem Ms {P : Program} {w : World} {K : PySem.W.Frag} {tg : Expr} (it : Addr) (lo : Int) (n : Nat) : Turn P w K tg (fg lo n) [it] it (fun i h => IsRangeIter h it (lo + (i : Nat) * 1) ((n : Int) - (i : Nat)) 1) where
 mem := by simp
 obj := fun i h st b hb => by
  have e : b = it := by simpa using hb
  subst e
  exact ⟨_, st, fun v z => by
   have z' : Data.fields _ = Data.cell v := z
   cases z'⟩
 keep := fun i h h' st k => k it (by simp) _ st
 item := by
  intro X hP hw hK hc i pins s σ H E I hf st hg
  subst hP hw hK
  obtain ⟨f0, f1, f2, f3, f4, f5⟩ := hf it (by simp)
  have W := Walks.range (prog := X.prog) (w := X.w) (I.ok.hd hc) it lo 1 n
  refine W.item i s _ _ hg st fun v h' tk hv bH kk => ?_
  obtain ⟨t, rfl⟩ := hv
  have I1 : Inv X pins σ H { s with heap := h', toks := tk } := I.turned (fun b o hb e => kk b o (by simpa using hb) e) f0 f1 f3 f4 f5
  refine ⟨_, rfl, lh (s := { s with heap := h', toks := tk }) (n := "range_iterator") bH rfl rfl (by decide) ⟨.int (lo + i), H, I1, ⟨t, ?_⟩, ⟨rfl, rfl⟩, bH, fun b hb => (hf b hb).1⟩⟩
  rw [Int.mul_one]
 done := by
  intro X hP hw hK hc i pins s σ H E I hf st hg
  subst hP hw hK
  obtain ⟨f0, f1, f2, f3, f4, f5⟩ := hf it (by simp)
  exact wpAny_pyNext_range_end (I.ok.hd hc) st (by have : n <= i := hg; omega) fun h' eb => ⟨rfl, I.turned (t' := s.toks) (fun b o hb e => eb b o hb e) f0 f1 f3 f4 f5⟩
 self := fun _ _ _ _ _ st h => wpAny_pyIter_rangeiter st h
end L2
namespace L2
open PySem PySem.Spec PyProof.Rows
section
variable {X : Cx} {tg : Expr}
noncomputable def lj (K : PySem.W.Frag) (tl : TE) : TI := fun σ H R => tl σ H fun x H1 => ∃ a, x = .ref a /\ (∃ xs, ah K H1 a xs) /\ R (fN K a) H1
noncomputable def lp (K : PySem.W.Frag) (tl : TE) : TI := fun σ H R => tl σ H fun x H1 => ∃ a, x = .ref a /\ (∃ xs, ai K H1 a xs) /\ R (pq K a) H1
theorem ec {l : Expr} {tl : TE} (hl : PE X l tl) : PI X tg l (lj X.K tl) := by
 intro pins s σ H R I h
 refine aB (hl pins s σ H _ I h) fun v s1 ⟨x, H1, I1, r1, q1⟩ => ?_
 obtain ⟨a, e, ⟨xs, hq⟩, q⟩ := q1
 subst e
 cases r1
 obtain ⟨ag, rv, p, hz⟩ := I1.list hq
 refine wpAny_pyIter_list p.isList ?_
 refine ⟨s1.heap.objs.size, [s1.heap.objs.size], _, _, H1, rfl, I1.kept (t' := s1.toks) fun b o e => Heap.get?_push_of_some _ e, Mq a _, ⟨_, Heap.get?_push_size _ rfl, rfl, rfl⟩, fun b hb => ?_, q⟩
 have e : b = s1.heap.objs.size := by simpa using hb
 subst e
 exact I1.d9 (Nat.le_refl _) (I1.ar.fresh (Nat.le_refl _))
theorem yF {l : Expr} {tl : TE} (hl : PE X l tl) : PI X tg l (lp X.K tl) := by
 intro pins s σ H R I h
 refine aB (hl pins s σ H _ I h) fun v s1 ⟨x, H1, I1, r1, q1⟩ => ?_
 obtain ⟨a, e, ⟨xs, hq⟩, q⟩ := q1
 subst e
 cases r1
 obtain ⟨ag, rv, p, hz⟩ := I1.tuple hq
 refine wpAny_pyIter_tuple (show s1.heap.IsTuple a ag.toArray from p) ?_
 refine ⟨s1.heap.objs.size, [s1.heap.objs.size], _, _, H1, rfl, I1.kept (t' := s1.toks) fun b o e => Heap.get?_push_of_some _ e, Mr a _, ⟨_, Heap.get?_push_size _ rfl, rfl, rfl⟩, fun b hb => ?_, q⟩
 have e : b = s1.heap.objs.size := by simpa using hb
 subst e
 exact I1.d9 (Nat.le_refl _) (I1.ar.fresh (Nat.le_refl _))
theorem FT {pins : List (Addr × Obj)} {σ : St} {H : Hp} {s : Shared} {R : It -> Hp -> Prop} {E : Value -> Shared -> Prop} {lo hi : Int} {t u v : Tok} {tk : Nat} (I : Inv X pins σ H s) (h1 : -(2 ^ 62) <= lo) (h2 : lo < 2 ^ 62) (h3 : -(2 ^ 62) <= hi) (h4 : hi < 2 ^ 62)
 (q : R (fg lo (hi - lo).toNat) H) : wpAny (model X.prog X.w) X.A (pyIter (.ref s.heap.objs.size)) (FR X pins σ tg R) E { s with heap := s.heap.push { cls := .type "range", data := .fields #[.int lo t, .int hi u, .int 1 v] }, toks := tk } := by
 refine wpAny_pyIter_range (IsRange.new ..) (small_one h1 h2 h3 h4) ?_
 have I1 : Inv X pins σ H { s with heap := s.heap.push { cls := .type "range", data := .fields #[.int lo t, .int hi u, .int 1 v] }, toks := tk } := I.kept fun b o e => Heap.get?_push_of_some _ e
 refine ⟨(s.heap.push { cls := .type "range", data := .fields #[.int lo t, .int hi u, .int 1 v] }).objs.size, [(s.heap.push { cls := .type "range", data := .fields #[.int lo t, .int hi u, .int 1 v] }).objs.size], _, _, H, rfl,
  I1.kept (t' := tk) fun b o e => Heap.get?_push_of_some _ e, Ms _ lo (hi - lo).toNat, ?_, fun b hb => ?_, q⟩
 ·have e1 : lo + ((0 : Nat) : Int) * 1 = lo := by simp
  have e2 : (((hi - lo).toNat : Nat) : Int) - ((0 : Nat) : Int) = Builtin.Range.rangeSize lo hi 1 := by rw [rangeSize_one]; split <;> omega
  show IsRangeIter _ _ (lo + ((0 : Nat) : Int) * 1) ((((hi - lo).toNat : Nat) : Int) - ((0 : Nat) : Int)) 1
  rw [e1, e2]
  exact Heap.get?_push_size _ rfl
 ·have e : b = (s.heap.push { cls := .type "range", data := .fields #[.int lo t, .int hi u, .int 1 v] }).objs.size := by simpa using hb
  subst e
  exact I1.d9 (Nat.le_refl _) (I1.ar.fresh (Nat.le_refl _))
noncomputable def lq (ta : TA) : TI := fun σ H R => ta σ H fun vs H1 => ∃ j : Int, vs = [.int j] /\ -(2 ^ 62) <= j /\ j < 2 ^ 62 /\ R (fg 0 j.toNat) H1
noncomputable def lx (ta : TA) : TI := fun σ H R => ta σ H fun vs H1 => ∃ i j : Int, vs = [.int i, .int j] /\ (-(2 ^ 62) <= i /\ i < 2 ^ 62 /\ -(2 ^ 62) <= j /\ j < 2 ^ 62) /\ R (fg i (j - i).toNat) H1
theorem fh {a : Expr} {ta : TA} {p pos : Pos} (hg : Gl X "range") (hm : X.mg "range" = none) (ha : PA X [a] ta) (hs : starEach [a] X.env = [(false, eval a X.env)] := by rfl) : PI X tg (.Call (.Name "range" p) [a] [] pos) (lq ta) := by
 intro pins s σ H R I h
 refine Call_ (dX I hg hm boot_range (PyProof.Rows.callWith_type1 (aB (ha pos pins s σ H _ I h) fun us s1 ⟨vs, H1, I1, r1, q1⟩ => ?_) hs rfl))
 obtain ⟨j, e, q1, q2, q⟩ := q1
 subst e
 cases r1 with
 | cons r rr =>
  cases rr
  obtain ⟨t, rfl⟩ := r
  exact call_range_1 (FT I1 (by omega) (by omega) q1 q2 (by simpa using q))
theorem Mt {a b : Expr} {ta : TA} {p pos : Pos} (hg : Gl X "range") (hm : X.mg "range" = none) (ha : PA X [a, b] ta) (hs : starEach [a, b] X.env = [(false, eval a X.env), (false, eval b X.env)] := by rfl) (cH : starEach [b] X.env = [(false, eval b X.env)] := by rfl) :
 PI X tg (.Call (.Name "range" p) [a, b] [] pos) (lx ta) := by
 intro pins s σ H R I h
 refine Call_ (dX I hg hm boot_range (PyProof.Rows.callWith_type1 (aB (ha pos pins s σ H _ I h) fun us s1 ⟨vs, H1, I1, r1, q1⟩ => ?_) (by rw [hs, cH]) (by rw [cH]; rfl)))
 obtain ⟨i, j, e, ⟨q1, q2, q3, q4⟩, q⟩ := q1
 subst e
 cases r1 with
 | cons r rr =>
  cases rr with
  | cons r' rr =>
   cases rr
   obtain ⟨t, rfl⟩ := r
   obtain ⟨t', rfl⟩ := r'
   exact call_range_2 (FT I1 q1 q2 q3 q4 q)
noncomputable def fO (wi : TI) (g : TG) (tb : TS) : TS := fun D σ H => wi σ H fun J H1 => ∃ W : Nat -> Nat -> St -> Hp -> Prop, (∃ m, W 0 m σ H1) /\ ∀ i m σ H, W i m σ H ->
 (J.stop i H /\ D.nx σ H) ∨ (J.go i H /\ ∃ N : St -> Hp -> Prop, (∀ σ' H', N σ' H' -> ∃ m', m' < m /\ W (i + 1) m' σ' H') /\ ∀ x H', J.yld i H x H' -> g x σ H' fun σ2 H2 => tb { D with nx := N, ct := N, bk := D.nx } σ2 H2)
noncomputable def ly (fp : List Addr) (h : Heap) : List (Addr × Obj) := fp.filterMap fun b => (h.get? b).map fun o => (b, o)
theorem lA {fp : List Addr} {h : Heap} {b : Addr} {o : Obj} (hb : b ∈ fp) (e : h.get? b = some o) : (b, o) ∈ ly fp h := List.mem_filterMap.mpr ⟨b, hb, by rw [e]; rfl⟩
theorem Mu {fp : List Addr} {h : Heap} {p : Addr × Obj} (hp : p ∈ ly fp h) : p.1 ∈ fp /\ h.get? p.1 = some p.2 := by
 obtain ⟨b, hb, e⟩ := List.mem_filterMap.mp hp
 cases q : h.get? b with
 | none => rw [q] at e; cases e
 | some o =>
  rw [q] at e
  have e' : (b, o) = p := Option.some.inj e
  subst e'
  exact ⟨hb, q⟩
theorem Inv.pinned {pins : List (Addr × Obj)} {σ : St} {H : Hp} {s : Shared} {fp : List Addr} (I : Inv X pins σ H s) (hf : ∀ b ∈ fp, cp X pins H b) (ho : ∀ b ∈ fp, ∃ o, s.heap.get? b = some o /\ ∀ v, o.data ≠ .cell v) : Inv X (pins ++ ly fp s.heap) σ H s :=
 I.jT fun p hp => (List.mem_append.mp hp).elim (fun z => I.pin p (List.mem_append_right _ z)) fun z => by
  obtain ⟨hb, e⟩ := Mu z
  obtain ⟨f0, f1, f2, _⟩ := hf p.1 hb
  obtain ⟨o, e', d⟩ := ho p.1 hb
  rw [e] at e'; cases e'
  exact ⟨e, f0, f1, f2, d⟩
theorem Inv.sr {pins pl : List (Addr × Obj)} {σ : St} {H : Hp} {s : Shared} (I : Inv X (pins ++ pl) σ H s) : Inv X pins σ H s := I.jT fun p hp => I.pin p (List.mem_append_right _ (List.mem_append_left _ hp))
theorem cI {iter : Expr} {body : List Stmt} {wi : TI} {g : TG} {tb : TS} {pos : Pos} (hp : PassesOwn (model X.prog X.w) X.A X.env X.xe) (hc : X.calm = true) (hi : PI X tg iter wi) (hg : PG X tg g) (hb : bg X body tb)
 (hs : ∀ x, foldedSetIterable iter X.env x = pure x := by intro _; rfl) : PS X (.For tg iter body [] pos) (fO wi g tb) := by
 intro pins s σ H D I h
 refine wpAny_For (aB (hi pins s σ H _ I h) fun v s1 h1 => aB h1 fun pj s2 h2 => ?_) hs
 obtain ⟨it, fp, tn, J, H2, e, I2, T, dv, f2, W, ⟨m0, w0⟩, turn⟩ := h2
 subst e
 have yG : ∀ {H' : Hp}, (∀ b ∈ fp, H' b = none) -> ∀ b ∈ fp, cp X pins H' b := fun hn b hb => ⟨hn b hb, (f2 b hb).2⟩
 refine codeAny_forLoop_any (fun n s' => ∃ i σ' H', Inv X pins σ' H' s' /\ tn i s'.heap /\ (∀ b ∈ fp, H' b = none) /\ W i n σ' H') ?_ m0 ⟨0, σ, H2, I2, dv, fun b hb => (f2 b hb).1, w0⟩
 rintro n s3 ⟨i, σ3, H3, I3, gS, gT, w3⟩
 rcases turn i n σ3 H3 w3 with ⟨stop, qn⟩ | ⟨go, N, hN, step⟩
 ·refine wpAny_passesOwn hp (aB (T.done X rfl rfl rfl hc i pins s3 σ3 H3 X.xe I3 (yG gT) gS stop) fun r s4 ⟨hr, I4⟩ => ?_)
  subst hr
  exact wpAny_execs_nil ⟨σ3, H3, I4, qn⟩
 ·refine wpAny_passesOwn hp (aB (T.item X rfl rfl rfl hc i pins s3 σ3 H3 X.xe I3 (yG gT) gS go) fun r s4 ⟨u, hr, h4⟩ => ?_)
  subst hr
  refine wpAny_passesOwn hp (aB h4 fun _ s5 ⟨x, H5, I5, r5, y5, fi, pw⟩ => ?_)
  have pA := I5.pinned (yG pw) (T.obj _ _ fi)
  refine wpAny_passesOwn hp (aB (hg _ s5 σ3 H5 x u _ pA r5 (step x H5 y5)) fun _ s6 ⟨σ6, H6, I6, q6⟩ => ?_)
  refine wpAny_passesOwn hp (aB (hb _ s6 σ6 H6 _ I6 q6) fun f s7 q7 => ?_)
  have again : ∀ {σ7 : St} {H7 : Hp}, Inv X (pins ++ ly fp s5.heap) σ7 H7 s7 -> N σ7 H7 -> ∃ m, m < n /\ ∃ i σ' H', Inv X pins σ' H' s7 /\ tn i s7.heap /\ (∀ b ∈ fp, H' b = none) /\ W i m σ' H' := fun {σ7 H7} I7 n7 => by
   obtain ⟨m', hm, w7⟩ := hN σ7 H7 n7
   refine ⟨m', hm, i + 1, σ7, H7, I7.sr, T.keep _ _ _ fi fun b hb o e => (I7.pin (b, o) (List.mem_append_right _ (List.mem_append_right _ (lA hb e)))).1, fun b hb => ?_, w7⟩
   obtain ⟨o, e, d⟩ := T.obj _ _ fi b hb
   exact (I7.pin (b, o) (List.mem_append_right _ (List.mem_append_right _ (lA hb e)))).2.1
  cases f with
  | next => obtain ⟨σ7, H7, I7, n7⟩ := q7; exact again I7 n7
  | cont => obtain ⟨σ7, H7, I7, n7⟩ := q7; exact again I7 n7
  | brk => obtain ⟨σ7, H7, I7, q7⟩ := q7; exact ⟨σ7, H7, I7.sr, q7⟩
  | ret v => obtain ⟨x7, σ7, H7, I7, r7, q7⟩ := q7; exact ⟨x7, σ7, H7, I7.sr, r7, q7⟩
end
theorem Mv {K : PySem.W.Frag} {a : Addr} {xs : List V} {g : TG} {tb : TS} {D : Ends} {σ : St} {H : Hp} (Pv : Nat -> St -> Hp -> Prop) (h0 : Pv 0 σ H) (hl : ∀ i σ H, i <= xs.length -> Pv i σ H -> ah K H a xs)
 (hs : ∀ i x σ H, xs[i]? = some x -> Pv i σ H -> g x σ H fun σ2 H2 => tb { D with nx := Pv (i + 1), ct := Pv (i + 1), bk := D.nx } σ2 H2) (hd : ∀ σ H, Pv xs.length σ H -> D.nx σ H) :
 ∃ W : Nat -> Nat -> St -> Hp -> Prop, (∃ m, W 0 m σ H) /\ ∀ i m σ H, W i m σ H ->
  ((fN K a).stop i H /\ D.nx σ H) ∨ ((fN K a).go i H /\ ∃ N : St -> Hp -> Prop, (∀ σ' H', N σ' H' -> ∃ m', m' < m /\ W (i + 1) m' σ' H') /\ ∀ x H', (fN K a).yld i H x H' -> g x σ H' fun σ2 H2 => tb { D with nx := N, ct := N, bk := D.nx } σ2 H2) := by
 refine ⟨fun i m σ H => m = xs.length - i /\ i <= xs.length /\ Pv i σ H, ⟨xs.length, by simp, Nat.zero_le _, h0⟩, ?_⟩
 rintro i m σ H ⟨rfl, hi, p⟩
 have q := hl i σ H hi p
 by_cases a9 : i < xs.length
 ·refine .inr ⟨⟨xs, xs[i], q, by simp [a9]⟩, Pv (i + 1), fun σ' H' p' => ⟨xs.length - (i + 1), by omega, rfl, a9, p'⟩, fun x H' y => ?_⟩
  obtain ⟨e, y⟩ := y
  subst e
  exact hs i x σ _ (y xs q) p
 ·have e : i = xs.length := by omega
  subst e
  exact .inl ⟨⟨xs, q, Nat.le_refl _⟩, hd σ H p⟩
theorem Mw {lo : Int} {n : Nat} {g : TG} {tb : TS} {D : Ends} {σ : St} {H : Hp} (Pv : Nat -> St -> Hp -> Prop) (h0 : Pv 0 σ H)
 (hs : ∀ i σ H, i < n -> Pv i σ H -> g (.int (lo + i)) σ H fun σ2 H2 => tb { D with nx := Pv (i + 1), ct := Pv (i + 1), bk := D.nx } σ2 H2) (hd : ∀ σ H, Pv n σ H -> D.nx σ H) :
 ∃ W : Nat -> Nat -> St -> Hp -> Prop, (∃ m, W 0 m σ H) /\ ∀ i m σ H, W i m σ H ->
  ((fg lo n).stop i H /\ D.nx σ H) ∨ ((fg lo n).go i H /\ ∃ N : St -> Hp -> Prop, (∀ σ' H', N σ' H' -> ∃ m', m' < m /\ W (i + 1) m' σ' H') /\ ∀ x H', (fg lo n).yld i H x H' -> g x σ H' fun σ2 H2 => tb { D with nx := N, ct := N, bk := D.nx } σ2 H2) := by
 refine ⟨fun i m σ H => m = n - i /\ i <= n /\ Pv i σ H, ⟨n, by simp, Nat.zero_le _, h0⟩, ?_⟩
 rintro i m σ H ⟨rfl, hi, p⟩
 by_cases a9 : i < n
 ·refine .inr ⟨a9, Pv (i + 1), fun σ' H' p' => ⟨n - (i + 1), by omega, rfl, a9, p'⟩, fun x H' y => ?_⟩
  obtain ⟨e, y⟩ := y
  subst e y
  exact hs i σ _ a9 p
 ·have e : i = n := by omega
  subst e
  exact .inl ⟨Nat.le_refl _, hd σ H p⟩
end L2
namespace L2
open PySem PySem.Spec PyProof.Rows
noncomputable abbrev R2 := V -> V -> Hp -> VK -> Prop
noncomputable def bI (X : Cx) (f : Value -> Value -> Sem Value) (r : R2) : Prop :=
 ∀ (pins : List (Addr × Obj)) (s : Shared) (σ : St) (H : Hp) (x y : V) (v u : Value) (Q : VK), Inv X pins σ H s -> RelV x v -> RelV y u -> r x y H Q ->
  wpAny (model X.prog X.w) X.A (f v u) (EP X pins σ Q) X.xe s
noncomputable def yH (X : Cx) (f : Value -> Sem Value) (r : V -> Hp -> VK -> Prop) : Prop :=
 ∀ (pins : List (Addr × Obj)) (s : Shared) (σ : St) (H : Hp) (x : V) (v : Value) (Q : VK), Inv X pins σ H s -> RelV x v -> r x H Q ->
  wpAny (model X.prog X.w) X.A (f v) (EP X pins σ Q) X.xe s
noncomputable def ed (X : Cx) (f : Value) (r : List V -> Hp -> VK -> Prop) : Prop :=
 ∀ (pins : List (Addr × Obj)) (s : Shared) (σ : St) (H : Hp) (xs : List V) (us : List Value) (Q : VK), Inv X pins σ H s -> Vals xs us -> r xs H Q ->
  wpAny (model X.prog X.w) X.A (call f us) (EP X pins σ Q) X.xe s
noncomputable def gU (r : R2) (ta tb : TE) : TE := fun σ H Q => ta σ H fun x H1 => tb σ H1 fun y H2 => r x y H2 Q
noncomputable def pB (r : V -> Hp -> VK -> Prop) (ta : TE) : TE := fun σ H Q => ta σ H fun x H1 => r x H1 Q
noncomputable def rI (C : Int -> Int -> Prop) (g : Int -> Int -> V) : R2 := fun x y H Q => ∃ i j, x = .int i /\ y = .int j /\ C i j /\ Q (g i j) H
noncomputable def fj (g : Int -> Int -> V) : R2 := fun x y H Q => ∃ i j, x = .int i /\ y = .int j /\ Q (g i j) H
noncomputable def rU (g : Int -> V) : V -> Hp -> VK -> Prop := fun x H Q => ∃ i, x = .int i /\ Q (g i) H
section
variable {X : Cx} {a b c : Expr} {ta tb tc : TE} {pos : Pos}
theorem yI (ha : PE X a ta) (hb : PE X b tb) {pins : List (Addr × Obj)} {s : Shared} {σ : St} {H : Hp} {R : V -> V -> Hp -> Prop} (I : Inv X pins σ H s)
 (h : ta σ H fun x H1 => tb σ H1 fun y H2 => R x y H2) {Q : Value -> Shared -> Prop} {f : Value -> Value -> Sem Value}
 (hf : ∀ v u s2 x y H2, Inv X pins σ H2 s2 -> RelV x v -> RelV y u -> R x y H2 -> wpAny (model X.prog X.w) X.A (f v u) Q X.xe s2) :
 wpAny (model X.prog X.w) X.A (eval a X.env) (fun v s₁ => wpAny (model X.prog X.w) X.A (eval b X.env) (fun u s₂ => wpAny (model X.prog X.w) X.A (f v u) Q X.xe s₂) X.xe s₁) X.xe s := by
 refine aB (ha pins s σ H _ I h) fun v s1 ⟨x, H1, I1, r1, q1⟩ => ?_
 refine aB (hb pins s1 σ H1 _ I1 q1) fun u s2 ⟨y, H2, I2, r2, q2⟩ => ?_
 exact hf v u s2 x y H2 I2 r1 r2 q2
theorem aA {op : Operator} {r : R2} (ho : bI X (binaryOp op) r) (ha : PE X a ta) (hb : PE X b tb) : PE X (.BinOp a op b pos) (gU r ta tb) := by
 intro pins s σ H Q I h
 exact wpAny_BinOp (yI ha hb I h fun v u s2 x y H2 I2 rx ry q => ho pins s2 σ H2 x y v u Q I2 rx ry q)
theorem dw {op : UnaryOp} {r : V -> Hp -> VK -> Prop} (ho : yH X (unaryOp op) r) (ha : PE X a ta) : PE X (.UnaryOp op a pos) (pB r ta) := by
 intro pins s σ H Q I h
 exact UnaryOp_ (aB (ha pins s σ H _ I h) fun v s1 ⟨x, H1, I1, r1, q1⟩ => ho pins s1 σ H1 x v Q I1 r1 q1)
theorem su {f : Value -> Value -> Sem Value} {C : Int -> Int -> Prop} {g : Int -> Int -> Int}
 (rule : ∀ (i j : Int) (t u : Tok) (s : Shared) (Q : Value -> Shared -> Prop) (E : Value -> Shared -> Prop), C i j -> Q (.int (g i j) s.toks) { s with toks := s.toks + 1 } -> wpAny (model X.prog X.w) X.A (f (.int i t) (.int j u)) Q E s) :
 bI X f (rI C fun i j => .int (g i j)) := by
 intro pins s σ H x y v u Q I rx ry h
 obtain ⟨i, j, rfl, rfl, hc, q⟩ := h
 obtain ⟨t, rfl⟩ := rx
 obtain ⟨t', rfl⟩ := ry
 exact rule i j t t' s _ _ hc ⟨.int (g i j), H, I.tok _, ⟨_, rfl⟩, q⟩
theorem FU {f : Value -> Value -> Sem Value} {g : Int -> Int -> Int}
 (rule : ∀ (i j : Int) (t u : Tok) (s : Shared) (Q : Value -> Shared -> Prop) (E : Value -> Shared -> Prop), Q (.int (g i j) s.toks) { s with toks := s.toks + 1 } -> wpAny (model X.prog X.w) X.A (f (.int i t) (.int j u)) Q E s) :
 bI X f (fj fun i j => .int (g i j)) := by
 intro pins s σ H x y v u Q I rx ry h
 obtain ⟨i, j, rfl, rfl, q⟩ := h
 obtain ⟨t, rfl⟩ := rx
 obtain ⟨t', rfl⟩ := ry
 exact rule i j t t' s _ _ ⟨.int (g i j), H, I.tok _, ⟨_, rfl⟩, q⟩
theorem yJ {f : Value -> Value -> Sem Value} {g : Int -> Int -> Bool}
 (rule : ∀ (i j : Int) (t u : Tok) (s : Shared) (Q : Value -> Shared -> Prop) (E : Value -> Shared -> Prop), Q (.bool (g i j)) s -> wpAny (model X.prog X.w) X.A (f (.int i t) (.int j u)) Q E s) :
 bI X f (fj fun i j => .bl (g i j)) := by
 intro pins s σ H x y v u Q I rx ry h
 obtain ⟨i, j, rfl, rfl, q⟩ := h
 obtain ⟨t, rfl⟩ := rx
 obtain ⟨t', rfl⟩ := ry
 exact rule i j t t' s _ _ ⟨.bl (g i j), H, I, rfl, q⟩
noncomputable def Mx (i j : Int) : Prop := 0 <= j /\ j <= 1000000 /\ i.natAbs < 2 ^ 64
theorem a5 : bI X (binaryOp .Add) (fj fun i j => .int (i + j)) := FU fun _ _ _ _ _ _ _ q => add_int q
theorem cU : bI X (binaryOp .Sub) (fj fun i j => .int (i - j)) := FU fun _ _ _ _ _ _ _ q => sub_int q
theorem gu : bI X (binaryOp .Mod) (rI (fun _ j => 0 < j) fun i j => .int (i % j)) := su fun i j _ _ _ _ _ hc q => by
 have h1 : (0 : Int) < j := hc
 exact mod_int' (by omega) (by rw [Int.fmod_eq_emod_of_nonneg i (by omega)]; exact q)
theorem lB : bI X (binaryOp .Pow) (rI Mx fun i j => .int (i ^ j.toNat)) := su fun _ _ _ _ _ _ _ hc q => pow_int_small hc.1 hc.2.1 hc.2.2 q
theorem My {f : Value -> Sem Value} {g : Int -> Int}
 (rule : ∀ (i : Int) (t : Tok) (s : Shared) (Q : Value -> Shared -> Prop) (E : Value -> Shared -> Prop), Q (.int (g i) s.toks) { s with toks := s.toks + 1 } -> wpAny (model X.prog X.w) X.A (f (.int i t)) Q E s) :
 yH X f (rU fun i => .int (g i)) := by
 intro pins s σ H x v Q I rx h
 obtain ⟨i, rfl, q⟩ := h
 obtain ⟨t, rfl⟩ := rx
 exact rule i t s _ _ ⟨.int (g i), H, I.tok _, ⟨_, rfl⟩, q⟩
theorem dz : yH X (unaryOp .USub) (rU fun i => .int (-i)) := My fun _ _ _ _ _ q => neg_int q
end
noncomputable def jY : V -> V -> Bool
 | .non, .non => true | .non, .int _ => true | .int _, .non => true | .non, .bl _ => true | .bl _, .non => true | .non, .str _ => true | .str _, .non => true
 | .int _, .int _ => true | .bl _, .bl _ => true | .str _, .str _ => true | .byt _, .byt _ => true
 | .int _, .str _ => true | .str _, .int _ => true | .bl _, .str _ => true | .str _, .bl _ => true
 | _, _ => false
noncomputable def pC : R2 := fun x y H Q => jY x y = true /\ Q (.bl (decide (x = y))) H
noncomputable def pE : R2 := fun x y H Q => jY x y = true /\ Q (.bl (!decide (x = y))) H
theorem FV {i j : Int} : decide (V.int i = V.int j) = (i == j) := by
 rw [Bool.eq_iff_iff]
 simp
theorem FW {i j : Bool} : decide (V.bl i = V.bl j) = (i == j) := by
 rw [Bool.eq_iff_iff]
 simp
theorem FX {i j : Str} : decide (V.str i = V.str j) = (i == j) := by
 rw [Bool.eq_iff_iff]
 simp
theorem FY {i j : Array UInt8} : decide (V.byt i = V.byt j) = (i.toList == j.toList) := by
 rw [Bool.eq_iff_iff]
 cases i
 cases j
 simp
section
variable {X : Cx} {a b c : Expr} {ta tb tc : TE} {pos : Pos}
theorem bF {pins : List (Addr × Obj)} {σ : St} {H : Hp} {s : Shared} {Q : VK} {k k' : Bool} (I : Inv X pins σ H s) (q : Q (.bl k) H) (e : k = k') : EP X pins σ Q (.bool k') s := by
 subst e
 exact ⟨.bl k, H, I, rfl, q⟩
theorem bJ : bI X (compareOp .Eq) pC := by
 intro pins s σ H x y v u Q I rx ry h
 obtain ⟨hs, q⟩ := h
 cases x with
 | non =>
  cases rx
  cases y with
  | non => cases ry; exact PySem.EqNone.eq_none_none (bF I q (by simp))
  | bl j => cases ry; exact PySem.EqNone.eq_none_bool (bF I q (by simp))
  | int j => obtain ⟨t', rfl⟩ := ry; exact PySem.EqNone.eq_none_int (bF I q (by simp))
  | str j => obtain ⟨t', rfl⟩ := ry; exact PySem.EqNone.eq_none_str (bF I q (by simp))
  | _ => exact absurd (show false = true from hs) Bool.false_ne_true
 | bl i =>
  cases rx
  cases y with
  | non => cases ry; exact PySem.EqNone.eq_bool_none (bF I q (by simp))
  | bl j => cases ry; exact eq_bool (bF I q FW)
  | str j => obtain ⟨t', rfl⟩ := ry; exact PySem.EqMixed.eq_bool_str (bF I q (by simp))
  | _ => exact absurd (show false = true from hs) Bool.false_ne_true
 | int i =>
  obtain ⟨t, rfl⟩ := rx
  cases y with
  | non => cases ry; exact PySem.EqNone.eq_int_none (bF I q (by simp))
  | int j => obtain ⟨t', rfl⟩ := ry; exact eq_int (bF I q FV)
  | str j => obtain ⟨t', rfl⟩ := ry; exact PySem.EqMixed.eq_int_str (bF I q (by simp))
  | _ => exact absurd (show false = true from hs) Bool.false_ne_true
 | str i =>
  obtain ⟨t, rfl⟩ := rx
  cases y with
  | non => cases ry; exact PySem.EqNone.eq_str_none (bF I q (by simp))
  | bl j => cases ry; exact PySem.EqMixed.eq_str_bool (bF I q (by simp))
  | int j => obtain ⟨t', rfl⟩ := ry; exact PySem.EqMixed.eq_str_int (bF I q (by simp))
  | str j => obtain ⟨t', rfl⟩ := ry; exact eq_str (bF I q FX)
  | _ => exact absurd (show false = true from hs) Bool.false_ne_true
 | byt i =>
  obtain ⟨t, rfl⟩ := rx
  cases y with
  | byt j => obtain ⟨t', rfl⟩ := ry; exact PySem.W.eq_bytes (bF I q FY)
  | _ => exact absurd (show false = true from hs) Bool.false_ne_true
 | _ => cases y <;> exact absurd (show false = true from hs) Bool.false_ne_true
theorem pF : bI X (compareOp .NotEq) pE := by
 intro pins s σ H x y v u Q I rx ry h
 obtain ⟨hs, q⟩ := h
 cases x with
 | non =>
  cases rx
  cases y with
  | non => cases ry; exact PySem.EqNone.ne_none_none (bF I q (by simp))
  | bl j => cases ry; exact PySem.EqNone.ne_none_bool (bF I q (by simp))
  | int j => obtain ⟨t', rfl⟩ := ry; exact PySem.EqNone.ne_none_int (bF I q (by simp))
  | str j => obtain ⟨t', rfl⟩ := ry; exact PySem.EqNone.ne_none_str (bF I q (by simp))
  | _ => exact absurd (show false = true from hs) Bool.false_ne_true
 | bl i =>
  cases rx
  cases y with
  | non => cases ry; exact PySem.EqNone.ne_bool_none (bF I q (by simp))
  | bl j => cases ry; exact ne_bool (bF I q (congrArg not FW))
  | str j => obtain ⟨t', rfl⟩ := ry; exact PySem.EqMixed.ne_bool_str (bF I q (by simp))
  | _ => exact absurd (show false = true from hs) Bool.false_ne_true
 | int i =>
  obtain ⟨t, rfl⟩ := rx
  cases y with
  | non => cases ry; exact PySem.EqNone.ne_int_none (bF I q (by simp))
  | int j => obtain ⟨t', rfl⟩ := ry; exact ne_int (bF I q (congrArg not FV))
  | str j => obtain ⟨t', rfl⟩ := ry; exact PySem.EqMixed.ne_int_str (bF I q (by simp))
  | _ => exact absurd (show false = true from hs) Bool.false_ne_true
 | str i =>
  obtain ⟨t, rfl⟩ := rx
  cases y with
  | non => cases ry; exact PySem.EqNone.ne_str_none (bF I q (by simp))
  | bl j => cases ry; exact PySem.EqMixed.ne_str_bool (bF I q (by simp))
  | int j => obtain ⟨t', rfl⟩ := ry; exact PySem.EqMixed.ne_str_int (bF I q (by simp))
  | str j => obtain ⟨t', rfl⟩ := ry; exact ne_str (bF I q (congrArg not FX))
  | _ => exact absurd (show false = true from hs) Bool.false_ne_true
 | byt i =>
  obtain ⟨t, rfl⟩ := rx
  cases y with
  | byt j => obtain ⟨t', rfl⟩ := ry; exact PySem.W.ne_bytes (bF I q (congrArg not FY))
  | _ => exact absurd (show false = true from hs) Bool.false_ne_true
 | _ => cases y <;> exact absurd (show false = true from hs) Bool.false_ne_true
theorem fP : bI X (compareOp .Lt) (fj fun i j => .bl (decide (i < j))) := yJ fun _ _ _ _ _ _ _ q => lt_int q
theorem fk : bI X (compareOp .LtE) (fj fun i j => .bl (decide (i <= j))) := yJ fun _ _ _ _ _ _ _ q => le_int q
theorem fm : bI X (compareOp .Gt) (fj fun i j => .bl (decide (j < i))) := yJ fun _ _ _ _ _ _ _ q => gt_int q
theorem aR (b : Expr) {op : CmpOp} (h : op ≠ .In := by decide) (h2 : op ≠ .NotIn := by decide) : behindInMarks op b = false := by
 have e1 : (op == CmpOp.In) = false := by cases op <;> first | rfl | exact absurd rfl h
 have e2 : (op == CmpOp.NotIn) = false := by cases op <;> first | rfl | exact absurd rfl h2
 cases b <;> simp [behindInMarks, e1, e2]
theorem eJ {op : CmpOp} {r : R2} (ho : bI X (compareOp op) r) (ha : PE X a ta) (hb : PE X b tb) (hm : behindInMarks op b = false) : PE X (.Compare a [op] [b] pos) (gU r ta tb) := by
 intro pins s σ H Q I h
 exact wpAny_Compare1 (yI ha hb I h fun v u s2 x y H2 I2 rx ry q => ho pins s2 σ H2 x y v u Q I2 rx ry q) hm
noncomputable def lC (t : TE) : TT := fun σ H Q => t σ H fun x H' => ∃ k, x = .bl k /\ Q k H'
theorem aX {op : CmpOp} {r : R2} (ho : bI X (compareOp op) r) (ha : PE X a ta) (hb : PE X b tb) (hm : behindInMarks op b = false) : PT X (.Compare a [op] [b] pos) (lC (gU r ta tb)) := by
 intro pins s σ H Q I h
 refine wpAny_isTrue_Compare1 (aB (ha pins s σ H _ I h) fun v s1 ⟨x, H1, I1, r1, q1⟩ => aB (hb pins s1 σ H1 _ I1 q1) fun u s2 ⟨y, H2, I2, r2, q2⟩ =>
  aB (ho pins s2 σ H2 x y v u _ I2 r1 r2 q2) fun c s3 ⟨z, H3, I3, r3, k, e, q3⟩ => ?_) hm
 subst e
 cases r3
 exact wpAny_truthy_bool ⟨H3, I3, q3⟩
noncomputable def lD (r r' : R2) (ta tb tc : TE) : TE := fun σ H Q => ta σ H fun x H1 => tb σ H1 fun y H2 => r x y H2 fun z H3 => ∃ k, z = .bl k /\
 (if k = true then tc σ H3 fun w' H4 => r' y w' H4 Q else Q (.bl false) H3)
theorem FZ {op jZ : CmpOp} {r r' : R2} (ho : bI X (compareOp op) r) (b5 : bI X (compareOp jZ) r') (ha : PE X a ta) (hb : PE X b tb) (hc : PE X c tc)
 (hm : lastMarks [op, jZ] [b, c] = false := by with_unfolding_all rfl) : PE X (.Compare a [op, jZ] [b, c] pos) (lD r r' ta tb tc) := by
 intro pins s σ H Q I h
 refine Compare_chain (aB (ha pins s σ H _ I h) fun v s1 ⟨x, H1, I1, r1, q1⟩ => chain_link (aB (hb pins s1 σ H1 _ I1 q1) fun u s2 ⟨y, H2, I2, r2, q2⟩ =>
  aB (ho pins s2 σ H2 x y v u _ I2 r1 r2 q2) fun d s3 ⟨z, H3, I3, r3, k, e, q3⟩ => ?_)) hm
 subst e
 cases r3
 refine wpAny_truthy_bool ?_
 cases k with
 | false => exact ite_ff ⟨.bl false, H3, I3, rfl, q3⟩
 | true => exact ite_tt (chain_last (aB (hc pins s3 σ H3 _ I3 q3) fun w' s4 ⟨z', H4, I4, r4, q4⟩ => b5 pins s4 σ H4 y z' u w' Q I4 r2 r4 q4))
theorem sx {op jZ : CmpOp} {r r' : R2} (ho : bI X (compareOp op) r) (b5 : bI X (compareOp jZ) r') (ha : PE X a ta) (hb : PE X b tb) (hc : PE X c tc)
 (hm : lastMarks [op, jZ] [b, c] = false := by with_unfolding_all rfl) : PT X (.Compare a [op, jZ] [b, c] pos) (lC (lD r r' ta tb tc)) := by
 intro pins s σ H Q I h
 refine isTrue_chain (aB (ha pins s σ H _ I h) fun v s1 ⟨x, H1, I1, r1, q1⟩ => test_link (aB (hb pins s1 σ H1 _ I1 q1) fun u s2 ⟨y, H2, I2, r2, q2⟩ =>
  aB (ho pins s2 σ H2 x y v u _ I2 r1 r2 q2) fun d s3 ⟨z, H3, I3, r3, k, e, q3⟩ => ?_)) hm
 subst e
 cases r3
 refine wpAny_truthy_bool ?_
 cases k with
 | false =>
  obtain ⟨k', e', q'⟩ := q3
  cases e'
  exact ite_ff ⟨H3, I3, q'⟩
 | true =>
  refine ite_tt (test_last (aB (hc pins s3 σ H3 _ I3 q3) fun w' s4 ⟨z', H4, I4, r4, q4⟩ => aB (b5 pins s4 σ H4 y z' u w' _ I4 r2 r4 q4) fun d' s5 ⟨z2, H5, I5, r5, k2, e2, q5⟩ => ?_))
  subst e2
  cases r5
  exact wpAny_truthy_bool ⟨H5, I5, q5⟩
theorem pG : (sizeLine : Nat) < 2 ^ 63 := by rw [sizeLine_eq]; decide
theorem vals1 {x : V} {us : List Value} (r : Vals [x] us) : ∃ u, us = [u] /\ RelV x u := by
 cases r with
 | cons r1 r2 => cases r2; exact ⟨_, rfl, r1⟩
theorem vals2 {x y : V} {us : List Value} (r : Vals [x, y] us) : ∃ u w', us = [u, w'] /\ RelV x u /\ RelV y w' := by
 cases r with
 | cons r1 r2 =>
  cases r2 with
  | cons r3 r4 => cases r4; exact ⟨_, _, rfl, r1, r3⟩
theorem Mz (hc : X.calm = true) : ed X (.builtin "max") (fun xs H Q => ∃ i j, xs = [.int i, .int j] /\ Q (.int (if j > i then j else i)) H) := by
 intro pins s σ H xs us Q I r h
 obtain ⟨i, j, rfl, q⟩ := h
 obtain ⟨u, w', rfl, ⟨t, rfl⟩, ⟨t', rfl⟩⟩ := vals2 r
 refine max_two_ints (I.ok.hd hc) fun h' tk k => ⟨_, H, I.kept k, ?_, q⟩
 by_cases hj : j > i
 ·rw [if_pos hj, if_pos hj]; exact ⟨_, rfl⟩
 ·rw [if_neg hj, if_neg hj]; exact ⟨_, rfl⟩
theorem sy (hc : X.calm = true) : ed X (.builtin "min") (fun xs H Q => ∃ i j, xs = [.int i, .int j] /\ Q (.int (if j < i then j else i)) H) := by
 intro pins s σ H xs us Q I r h
 obtain ⟨i, j, rfl, q⟩ := h
 obtain ⟨u, w', rfl, ⟨t, rfl⟩, ⟨t', rfl⟩⟩ := vals2 r
 refine min_two_ints (I.ok.hd hc) fun h' tk k => ⟨_, H, I.kept k, ?_, q⟩
 by_cases hj : j < i
 ·rw [if_pos hj, if_pos hj]; exact ⟨_, rfl⟩
 ·rw [if_neg hj, if_neg hj]; exact ⟨_, rfl⟩
noncomputable def yK (K : PySem.W.Frag) (x : V) (H : Hp) (n : Nat) : Prop :=
 match x with
 | .str y => y.length <= sizeLine /\ n = y.length
 | .byt y => y.size <= sizeLine /\ n = y.size
 | .ref p => (∃ xs, ah K H p xs /\ n = xs.length) ∨ ∃ xs, ai K H p xs /\ n = xs.length
 | _ => False
theorem cD : ed X (.builtin "len") (fun xs H Q => ∃ x n, xs = [x] /\ yK X.K x H n /\ Q (.int n) H) := by
 intro pins s σ H xs us Q I r h
 obtain ⟨x, n, rfl, e, q⟩ := h
 obtain ⟨u, rfl, rx⟩ := vals1 r
 have hl := pG
 have hs : sizeLine = 16777216 := sizeLine_eq
 cases x with
 | str y =>
  obtain ⟨t, rfl⟩ := rx
  obtain ⟨hy, e'⟩ : y.length <= sizeLine /\ n = y.length := e
  subst e'
  exact len_str (by omega) ⟨.int _, H, I.tok _, ⟨_, rfl⟩, q⟩
 | byt y =>
  obtain ⟨t, rfl⟩ := rx
  obtain ⟨hy, e'⟩ : y.size <= sizeLine /\ n = y.size := e
  subst e'
  exact PySem.W.len_bytes (by omega) ⟨.int _, H, I.tok _, ⟨_, rfl⟩, q⟩
 | ref p =>
  cases rx
  have e' : (∃ xs, ah X.K H p xs /\ n = xs.length) ∨ ∃ xs, ai X.K H p xs /\ n = xs.length := e
  rcases e' with ⟨xs, hx, e'⟩ | ⟨xs, hx, e'⟩
  ·subst e'
   obtain ⟨ag, r', pl, hz⟩ := I.list hx
   have hlen := r'.length
   exact Calls.call_len_list pl.isList (by simp only [List.size_toArray]; omega) ⟨.int xs.length, H, I.tok _, ⟨_, by simp only [List.size_toArray]; rw [hlen]⟩, q⟩
  ·subst e'
   obtain ⟨ag, r', pl, hz⟩ := I.tuple hx
   have hlen := r'.length
   exact len_tuple pl (by simp only [List.size_toArray]; omega) ⟨.int xs.length, H, I.tok _, ⟨_, by simp only [List.size_toArray]; rw [hlen]⟩, q⟩
 | _ => exact (show False from e).elim
end
end L2
namespace L2
open PySem PySem.Spec PyProof.Rows
structure j0 (h : Heap) (x dx C : Addr) (mA : Str -> Option Value) : Prop where
 obj : h.get? x = some (PySem.W.instObj C dx)
 ns : h.Ns1 dx mA
 ne : dx ≠ x
theorem MA {h : Heap} {dx : Addr} {mA : Str -> Option Value} (n : h.Ns1 dx mA) : ∃ od, h.get? dx = some od /\ ∀ name, PySem.W.lookIn name od = some (mA name) := by
 obtain ⟨o, es, ep, ho, hd, hk, _, hm⟩ := n
 refine ⟨o, ho, fun name => ?_⟩
 have e := hm name
 unfold nsFind findBy at e
 rw [<- Array.find?_toList] at e
 unfold PySem.W.lookIn
 rw [hd]
 dsimp only
 split
 ·rename_i y q
  rw [q] at e
  exact congrArg some e
 ·rename_i q
  rw [q] at e
  have a : es.toList.any (·.refKey) = false := by
   rw [List.any_eq_false]
   intro y hy
   obtain ⟨z, t, hkey⟩ := hk y (Array.mem_toList_iff.mp hy)
   simp [DictEntry.refKey, hkey]
  have a' : ¬ es.toList.any (·.refKey) = true := by rw [a]; exact Bool.false_ne_true
  rw [if_neg a']
  exact congrArg some e
theorem j0.look {h : Heap} {x dx C : Addr} {mA : Str -> Option Value} (I : j0 h x dx C mA) : ∃ od, PySem.W.InstAt h x (PySem.W.instObj C dx) C (some od) /\ ∀ name, PySem.W.lookIn name od = some (mA name) :=
 let ⟨od, ho, hl⟩ := MA I.ns
 ⟨od, ⟨I.obj, rfl, rfl, ho⟩, hl⟩
section
variable {prog : Program} {w : World} {A : Around} {E : Value -> Shared -> Prop} {s : Shared} {K : PySem.W.Frag} {x dx C f : Addr} {mA : Str -> Option Value} {name : Str} {v : Value}
theorem get_map {expr : Bool} {Q : Value -> Shared -> Prop} (X : K.In s.heap) (I : j0 s.heap x dx C mA) (hg : PySem.W.plainGet K C name = true) (hh : PySem.W.hasDictIn K C = true)
 (ha : PySem.W.findIn K (.ref C) name = some none) (hv : mA name = some v) (MB : PySem.W.handedIn v = true) (h : Q v { s with toks := s.toks + 1 }) :
 wpAny (model prog w) A (getAttr (.ref x) name expr) Q E s := by
 obtain ⟨od, J, hl⟩ := I.look
 exact PySem.W.get_value X J (PySem.W.plainGet_of hg).1 (PySem.W.findObj_own hh ha rfl (by rw [hl, hv])) MB h
theorem MC {pl : Sem Bool} {Q : Value × List Value -> Shared -> Prop} (X : K.In s.heap) (I : j0 s.heap x dx C mA) (hg : PySem.W.plainGet K C name = true)
 (hf : PySem.W.findIn K (.ref C) name = some (some (.ref f))) (ht : PySem.W.isFn K (.ref f) = true) (hv : mA name = none) (h : Q (.ref f, [.ref x]) s) :
 wpAny (model prog w) A (getMethod (.ref x) name pl) Q E s := by
 obtain ⟨od, J, hl⟩ := I.look
 exact PySem.W.method_fn X J (PySem.W.plainGet_of hg).1 (PySem.W.plainGet_of hg).2 hf (beq_iff_eq.mp ht) (by show (PySem.W.lookIn name od).map (·.isSome) = some false; rw [hl, hv]; rfl) h
theorem MD {ns : List Str} {Q : Unit -> Shared -> Prop} (X : K.In s.heap) (I : j0 s.heap x dx C mA)
 (hs : PySem.W.findIn K (.ref C) "__setattr__" = some (some (.builtin "object.__setattr__"))) (hp : PySem.W.plainOver K C = true) (ht : PySem.W.takerIn K C name = some none) (hh : PySem.W.hasDictIn K C = true)
 (hw : PySem.Within mA ns) (b7 : ns.length <= sizeLine)
 (h : ∀ h', j0 h' x dx C (fun y => if y = name then some v else mA y) -> Heap.SameBut dx s.heap h' -> Q () { s with heap := h', toks := s.toks + 2 }) :
 wpAny (model prog w) A (setAttr (.ref x) name v) Q E s := by
 obtain ⟨od, J, hl⟩ := I.look
 refine PySem.W.set_plain X J hs (PySem.W.osa_open (s := { s with toks := s.toks + 1 }) (r := none) X J hp ht fun b => ?_)
 obtain ⟨cd, hc, gp⟩ := PySem.W.any_some hh
 have hx : s.heap.get? x = some ⟨.ref C, some dx, .plain, #[]⟩ := I.obj
 refine wpAny_bind (wpAny_pure (wpAny_bind (wpAny_bind (wpAny_loadPart hx (wpAny_bind (PySem.W.Looks.here (s := { s with toks := s.toks + 1 }) (PySem.W.looks_clsIn X hc) ?_))))))
 rw [gp]
 refine wpAny_pure (a := some dx) (wpAny_bind (wpAny_pure (wpAny_bind ?_)))
 refine wpAny_nsSet1 (s := { s with toks := s.toks + 1 }) I.ns fun h' F0 cH => ?_
 obtain ⟨oD, esD, epD, ME, MF, MG⟩ := F0.count (PySem.Within.cons name v hw)
 refine wpAny_bind (wpAny_lookBehind ME (by rw [MF]; exact pastItsLine_dict (Nat.le_trans MG (by rw [List.length_cons]; omega))) ?_)
 exact wpAny_pure (h _ ⟨(cH.2 _ (Ne.symm I.ne)).trans I.obj, F0, I.ne⟩ cH)
theorem MH {R : Result -> Shared -> Prop} {vs : List Value} {kw : List (Str × Value)} (X : K.In s.heap) (hm : PySem.W.makesIn K C = true)
 (hi : PySem.W.findIn K (.ref C) "__init__" = some (some (.ref f))) (hf : PySem.W.typeIn K (.ref f) = some (.type "function"))
 (h : codeAny (model prog w) (A.under (.builtin "type.__call__" ⟨.ref C :: vs, kw⟩)) (.call (.ref f) ⟨.ref (s.heap.objs.size + 1) :: vs, kw⟩) (PySem.W.InitBack (s.heap.objs.size + 1) R)
   { s with heap := (s.heap.push PySem.W.emptyDict).push (PySem.W.instObj C s.heap.objs.size) }) :
 codeAny (model prog w) A (.call (.ref C) ⟨vs, kw⟩) R s := by
 obtain ⟨hh, g, d, t, os⟩ := s
 exact PySem.W.make_core (PySem.W.makes_of X hm) (PySem.W.looks_findIn X hi) (fun self => PySem.W.bind_fn X self hf) (.inl rfl) h
end
noncomputable def de (f : Str) (v : V) : List (Str × V) -> List (Str × V)
 | [] => [(f, v)]
 | (g, x) :: r => if g = f then (g, v) :: r else (g, x) :: de f v r
theorem F1 (f g : Str) (v : V) : ∀ fs : List (Str × V), (de f v fs).lookup g = if g = f then some v else fs.lookup g
 | [] => by
  show List.lookup g [(f, v)] = _
  by_cases h : g = f
  ·have hb : (g == f) = true := beq_iff_eq.mpr h
   simp only [List.lookup, hb, if_pos h]
  ·have hb : (g == f) = false := beq_eq_false_iff_ne.mpr h
   simp only [List.lookup, hb, if_neg h]
 | (k, x) :: r => by
  have ih := F1 f g v r
  rw [show de f v ((k, x) :: r) = (if k = f then (k, v) :: r else (k, x) :: de f v r) from rfl]
  by_cases hk : k = f
  ·rw [if_pos hk]
   by_cases h : g = k
   ·have hb : (g == k) = true := beq_iff_eq.mpr h
    simp only [List.lookup, hb, if_pos (h.trans hk)]
   ·have hb : (g == k) = false := beq_eq_false_iff_ne.mpr h
    simp only [List.lookup, hb, if_neg (fun e : g = f => h (e.trans hk.symm))]
  ·rw [if_neg hk]
   by_cases h : g = k
   ·have hb : (g == k) = true := beq_iff_eq.mpr h
    simp only [List.lookup, hb, if_neg (fun e : g = f => hk (h.symm.trans e))]
   ·have hb : (g == k) = false := beq_eq_false_iff_ne.mpr h
    simp only [List.lookup, hb]
    exact ih
theorem yL (f : Str) (v : V) : ∀ fs : List (Str × V), f ∈ (de f v fs).map (·.1) /\ ∀ g, g ∈ fs.map (·.1) -> g ∈ (de f v fs).map (·.1)
 | [] => ⟨by simp [de], fun g h => by simp at h⟩
 | (k, x) :: r => by
  obtain ⟨i1, i2⟩ := yL f v r
  rw [show de f v ((k, x) :: r) = (if k = f then (k, v) :: r else (k, x) :: de f v r) from rfl]
  by_cases hk : k = f
  ·rw [if_pos hk]
   subst hk
   exact ⟨by simp, fun g h => by simpa using h⟩
  ·rw [if_neg hk]
   refine ⟨?_, fun g h => ?_⟩
   ·rw [List.map_cons]
    exact List.mem_cons_of_mem _ i1
   ·rw [List.map_cons] at h ⊢
    rcases List.mem_cons.mp h with e | e
    ·exact List.mem_cons.mpr (.inl e)
    ·exact List.mem_cons_of_mem _ (i2 g e)
theorem F2 (f : Str) (v : V) : ∀ fs : List (Str × V), (de f v fs).length <= fs.length + 1
 | [] => by simp [de]
 | (k, x) :: r => by
  have ih := F2 f v r
  rw [show de f v ((k, x) :: r) = (if k = f then (k, v) :: r else (k, x) :: de f v r) from rfl]
  by_cases hk : k = f
  ·rw [if_pos hk, List.length_cons, List.length_cons]; omega
  ·rw [if_neg hk, List.length_cons, List.length_cons]; omega
theorem eF.some_of {v : V} {o : Option Value} (r : eF (some v) o) : ∃ u, o = some u /\ RelV v u := by
 cases o with
 | none => exact (show False from r).elim
 | some u => exact ⟨u, rfl, r⟩
theorem eF.none_of {o : Option Value} (r : eF none o) : o = none := by
 cases o with
 | none => rfl
 | some u => exact (show False from r).elim
theorem MI {v : V} {u : Value} (r : RelV v u) : PySem.W.handedIn u = true := by
 cases v with
 | non => cases (show u = Value.none from r); rfl
 | bl b => cases (show u = Value.bool b from r); rfl
 | int i => obtain ⟨t, e⟩ := (show ∃ t, u = Value.int i t from r); cases e; rfl
 | str x => obtain ⟨t, e⟩ := (show ∃ t, u = Value.str x t from r); cases e; rfl
 | byt b => obtain ⟨t, e⟩ := (show ∃ t, u = Value.bytes b t from r); cases e; rfl
 | flt b => obtain ⟨t, e⟩ := (show ∃ t, u = Value.float b t from r); cases e; rfl
 | ref a => cases (show u = Value.ref a from r); rfl
 | ty n => cases (show u = Value.type n from r); rfl
section
variable {P : Program} {w : World} {H H' : Hp} {h h' : Heap} {a C dx : Addr} {fs Mc : List (Str × V)}
theorem sA (ar : bM P w H h) (e : H a = some (.ins C dx fs)) : ∃ mA, j0 h a dx C mA /\ (∀ f, eF (fs.lookup f) (mA f)) /\ PySem.Within mA (fs.map (·.1)) /\ fs.length <= 1000 /\ H dx = some (.own a) := by
 obtain ⟨d, z, ne, ob, mA, n, r, q⟩ := (show bD P w H h a (.ins C dx fs) from ar a _ e)
 exact ⟨mA, ⟨ob, n, ne⟩, r, q, z, d⟩
end
structure eK (K : PySem.W.Frag) (C : Addr) : Prop where
 pg : PySem.W.plainGet K C Str.empty = true
 hd : PySem.W.hasDictIn K C = true
 po : PySem.W.plainOver K C = true
 sa : PySem.W.findIn K (.ref C) "__setattr__" = some (some (.builtin "object.__setattr__"))
theorem eK.get {K : PySem.W.Frag} {C : Addr} (c : eK K C) (f : Str) : PySem.W.plainGet K C f = true := c.pg
noncomputable def eL (K : PySem.W.Frag) (C : Addr) (f : Str) : Prop := PySem.W.findIn K (.ref C) f = some none
theorem eL.MJ {K : PySem.W.Frag} {C : Addr} {f : Str} (n : eL K C f) : PySem.W.takerIn K C f = some none := by
 unfold PySem.W.takerIn
 rw [show PySem.W.findIn K (.ref C) f = some none from n]
 rfl
structure Meth (K : PySem.W.Frag) (C : Addr) (m : Str) (f : Addr) : Prop where
 at_ : PySem.W.findIn K (.ref C) m = some (some (.ref f))
 fn : PySem.W.isFn K (.ref f) = true
 kp : PySem.W.keepIn K (.ref f) = true
section
variable {X : Cx} {pins : List (Addr × Obj)} {σ : St} {H : Hp} {s : Shared} {a C dx : Addr} {fs : List (Str × V)} {f : Str} {v : V} {A : Around} {E : Value -> Shared -> Prop}
theorem MK {b : Bool} {Q : Value -> Shared -> Prop} (I : Inv X pins σ H s) (e : H a = some (.ins C dx fs)) (c : eK X.K C) (n : eL X.K C f) (l : fs.lookup f = some v)
 (h : ∀ u s', Inv X pins σ H s' -> RelV v u -> Q u s') : wpAny (model X.prog X.w) A (getAttr (.ref a) f b) Q E s := by
 obtain ⟨mA, O, r, _, _, _⟩ := sA I.ar e
 obtain ⟨u, hu, ru⟩ := eF.some_of (v := v) (o := mA f) (by rw [<- l]; exact r f)
 exact get_map I.bP O (c.get f) c.hd n hu (MI ru) (h u _ (I.tok _) ru)
theorem F3 {m : Str} {g : Addr} {pl : Sem Bool} {Q : Value × List Value -> Shared -> Prop} (I : Inv X pins σ H s) (e : H a = some (.ins C dx fs)) (c : eK X.K C) (k : Meth X.K C m g) (l : fs.lookup m = none)
 (h : Q (.ref g, [.ref a]) s) : wpAny (model X.prog X.w) A (getMethod (.ref a) m pl) Q E s := by
 obtain ⟨mA, O, r, _, _, _⟩ := sA I.ar e
 have hn : mA m = none := eF.none_of (by rw [<- l]; exact r m)
 exact MC I.bP O (c.get m) k.at_ k.fn hn h
theorem ML {y : V} {u : Value} {Q : Unit -> Shared -> Prop} (I : Inv X pins σ H s) (e : H a = some (.ins C dx fs)) (c : eK X.K C) (n : eL X.K C f) (hl : fs.length < 1000) (ry : RelV y u)
 (h : ∀ s', Inv X pins σ (upd H a (.ins C dx (de f y fs))) s' -> Q () s') : wpAny (model X.prog X.w) A (setAttr (.ref a) f u) Q E s := by
 obtain ⟨mA, O, r, wi, _, ho⟩ := sA I.ar e
 have hz : (fs.map (·.1)).length <= sizeLine := by rw [List.length_map, sizeLine_eq]; omega
 refine MD I.bP O c.sa c.po n.MJ c.hd wi hz fun h' O' sb => h _ ?_
 have hd : ∃ o, h'.get? dx = some o := let ⟨o, _, _, e', _⟩ := O'.ns; ⟨o, e'⟩
 refine I.write (x := a) (e := dx) (by rw [e]; exact True.intro) (.inr ho) (fun b q hb z => (sb.2 b hb).trans z) hd ?_
 refine ⟨by rw [aH O.ne]; exact ho, ?_, O.ne, O'.obj, _, O'.ns, fun g => ?_, fun g hg => ?_⟩
 ·have := F2 f y fs; omega
 ·show eF ((de f y fs).lookup g) (if g = f then some u else mA g)
  rw [F1]
  by_cases q : g = f
  ·rw [if_pos q, if_pos q]; exact ry
  ·rw [if_neg q, if_neg q]; exact r g
 ·by_cases q : g = f
  ·rw [q]; exact (yL f y fs).1
  ·refine (yL f y fs).2 g (wi g fun z => hg ?_)
   show (if g = f then some u else mA g) = none
   rw [if_neg q]; exact z
theorem Inv.made (I : Inv X pins σ H s) : Inv X pins σ (upd (upd H s.heap.objs.size (.own (s.heap.objs.size + 1))) (s.heap.objs.size + 1) (.ins C s.heap.objs.size []))
 { s with heap := (s.heap.push PySem.W.emptyDict).push (PySem.W.instObj C s.heap.objs.size) } := by
 have e1 : (s.heap.push PySem.W.emptyDict).get? s.heap.objs.size = some PySem.W.emptyDict := Heap.get?_push_size s.heap rfl
 have e2 : ((s.heap.push PySem.W.emptyDict).push (PySem.W.instObj C s.heap.objs.size)).get? (s.heap.objs.size + 1) = some (PySem.W.instObj C s.heap.objs.size) := by
  have := Heap.get?_push_size (s.heap.push PySem.W.emptyDict) (o := PySem.W.instObj C s.heap.objs.size) rfl
  rwa [Heap.size_push] at this
 have e3 : (s.heap.push PySem.W.emptyDict).Ns s.heap.objs.size (fun _ => none) := ⟨PySem.W.emptyDict, #[], _, e1, rfl, (fun e he => absurd he (by simp)), fun _ => rfl⟩
 have I1 := I.laid (a := s.heap.objs.size) (o := .own (s.heap.objs.size + 1)) (h' := s.heap.push PySem.W.emptyDict) (t' := s.toks) (fun b u q => Heap.get?_push_of_some _ q) (Nat.le_refl _) ⟨_, e1⟩
 refine I1.laid (a := s.heap.objs.size + 1) (o := .ins C s.heap.objs.size []) (t' := s.toks) (fun b u q => Heap.get?_push_of_some _ q) (Nat.le_of_eq (Heap.size_push _ _)) ?_
 have ne : s.heap.objs.size ≠ s.heap.objs.size + 1 := Nat.ne_of_lt (Nat.lt_succ_self _)
 refine ⟨by rw [aH ne, aq], Nat.zero_le _, ne, e2, fun _ => none, (Heap.Ns1.of_empty e3).at fun o q => Heap.get?_push_of_some _ q, fun _ => True.intro, fun y hy => absurd rfl hy⟩
theorem MM {prog : Program} {w : World} {env : Env} {e : Expr} {f : Str} {pos : Pos} {s : Shared} {Q : Value -> Shared -> Prop} (hb : attributeBase e f env (eval e env) = eval e env)
 (h : wpAny (model prog w) A (eval e env) (fun o s₁ => wpAny (model prog w) A (getAttr o f true) Q E s₁) E s) : wpAny (model prog w) A (eval (.Attribute e f pos) env) Q E s :=
 Attribute_any_ h (by rw [arm_eval_Attribute, hb])
end
noncomputable def pH (K : PySem.W.Frag) (ta : TE) (f : Str) : TE := fun σ H Q => ta σ H fun x H1 => ∃ a C dx fs v, x = .ref a /\ H1 a = some (.ins C dx fs) /\ eK K C /\ eL K C f /\ fs.lookup f = some v /\ Q v H1
noncomputable def pI (K : PySem.W.Frag) (ta tv : TE) (f : Str) : TS := fun D σ H => tv σ H fun y H1 => ta σ H1 fun x H2 => ∃ a C dx fs, x = .ref a /\ H2 a = some (.ins C dx fs) /\ eK K C /\ eL K C f /\ fs.length < 1000 /\
 D.nx σ (upd H2 a (.ins C dx (de f y fs)))
section
variable {X : Cx} {o e value : Expr} {f : Str} {pos pos' MN : Pos} {ta tv : TE}
theorem gv (he : PE X e ta) (hb : attributeBase e f X.env (eval e X.env) = eval e X.env) : PE X (.Attribute e f pos) (pH X.K ta f) := by
 intro pins s σ H Q I h
 refine MM hb (aB (he pins s σ H _ I h) fun u s1 ⟨x, H1, I1, rx, a, C, dx, fs, v, ex, ea, c, n, l, q⟩ => ?_)
 subst ex
 obtain rfl : u = Value.ref a := rx
 exact MK I1 ea c n l fun u' s2 I2 ru => ⟨v, H1, I2, ru, q⟩
theorem lE (ha : PE X o ta) (hv : PE X value tv) (hs : swapsWith value (some (.Attribute o f pos')) pos.line X.env = pure false) : PS X (.Assign [.Attribute o f pos'] value pos) (pI X.K ta tv f) := by
 intro pins s σ H D I h
 refine plainObj_wpAny_Assign_Attribute (aB (hv pins s σ H _ I h) fun u s1 ⟨y, H1, I1, ry, q⟩ => aB (ha pins s1 σ H1 _ I1 q) fun ov s2 ⟨x, H2, I2, rx, a, C, dx, fs, ex, ea, c, n, l, q2⟩ => ?_) hs
 subst ex
 obtain rfl : ov = Value.ref a := rx
 exact ML I2 ea c n l ry fun s3 I3 => ⟨σ, _, I3, q2⟩
end
section
variable {X : Cx} {pins : List (Addr × Obj)} {σ : St} {H : Hp} {s : Shared} {A : Around} {E : Value -> Shared -> Prop} {Q : Value -> Shared -> Prop} {c : Value} {b : Bool}
inductive cg (K : PySem.W.Frag) (H : Hp) : V -> Value -> Prop where
 | non : cg K H .non (.type "NoneType")
 | bl (x : Bool) : cg K H (.bl x) (.type "bool")
 | int (i : Int) : cg K H (.int i) (.type "int")
 | str (x : Str) : cg K H (.str x) (.type "str")
 | flt (x : UInt64) : cg K H (.flt x) (.type "float")
 | lst {a : Addr} {xs : List V} (e : H a = some (.lst xs)) : cg K H (.ref a) (.type "list")
 | bj {a : Addr} {o : Obj} {xs : List V} (e : H a = some (.bj o (.lst xs))) : cg K H (.ref a) (.type "list")
 | tup {a : Addr} {xs : List V} (e : H a = some (.tup xs)) : cg K H (.ref a) (.type "tuple")
 | dK {a : Addr} {kvs : List (Key × V)} (e : H a = some (.dK kvs)) : cg K H (.ref a) (.type "dict")
 | dT {a : Addr} {kvs : List (List Key × V)} (e : H a = some (.dT kvs)) : cg K H (.ref a) (.type "dict")
 | ins {a C dx : Addr} {fs : List (Str × V)} (e : H a = some (.ins C dx fs)) (cl : eK K C) (ha : PySem.W.findIn K (.ref C) "__class__" = some (some (.builtin "object.__class__")))
  (hn : PySem.W.specialIn K (.builtin "object.__class__") "__get__" = some (some (.builtin "getset_descriptor.__get__"))) (F4 : PySem.W.takesIn K (.builtin "object.__class__") = some true)
  (hm : PySem.W.mroIn K C (.type "object") = some true) : cg K H (.ref a) (.ref C)
theorem MO {x : V} {u t : Value} (I : Inv X pins σ H s) (rx : RelV x u) (ty : cg X.K H x t) (e : PySem.W.kitOne X.K t c = some b) (h : ∀ tk, Q (.bool b) { s with toks := tk }) :
 wpAny (model X.prog X.w) A (call (.builtin "isinstance") [u, c]) Q E s := by
 cases ty with
 | non => cases (show u = Value.none from rx); exact PySem.W.kia_one PySem.W.kitx_none I.bP True.intro e (fun z => nomatch z) h
 | bl y => cases (show u = Value.bool y from rx); exact PySem.W.kia_one PySem.W.kitx_bool I.bP True.intro e (fun z => nomatch z) h
 | int i => obtain ⟨t, q⟩ := (show ∃ t, u = Value.int i t from rx); cases q; exact PySem.W.kia_one PySem.W.kitx_int I.bP True.intro e (fun z => nomatch z) h
 | str y => obtain ⟨t, q⟩ := (show ∃ t, u = Value.str y t from rx); cases q; exact PySem.W.kia_one PySem.W.kitx_str I.bP True.intro e (fun z => nomatch z) h
 | flt y => obtain ⟨t, q⟩ := (show ∃ t, u = Value.float y t from rx); cases q; exact PySem.W.kia_one PySem.W.kitx_float I.bP True.intro e (fun z => nomatch z) h
 | @lst a xs ea =>
  cases (show u = Value.ref a from rx)
  obtain ⟨_, _, n, _, h1⟩ := (show bD X.prog X.w H s.heap a (.lst xs) from I.ar a _ ea)
  exact PySem.W.kia_one PySem.W.kitx_list I.bP ⟨_, h1, rfl⟩ e (fun z => nomatch z) h
 | @bj a ob xs ea =>
  cases (show u = Value.ref a from rx)
  obtain ⟨_, _, _, n, _, h1⟩ := (show bD X.prog X.w H s.heap a (.bj ob (.lst xs)) from I.ar a _ ea)
  exact PySem.W.kia_one PySem.W.kitx_list I.bP ⟨_, h1, rfl⟩ e (fun z => nomatch z) h
 | @tup a xs ea =>
  cases (show u = Value.ref a from rx)
  obtain ⟨_, _, _, p⟩ := (show bD X.prog X.w H s.heap a (.tup xs) from I.ar a _ ea)
  obtain ⟨o, h1, h2, _⟩ := p
  exact PySem.W.kia_one PySem.W.kitx_tuple I.bP ⟨o, h1, h2⟩ e (fun z => nomatch z) h
 | @dK a kvs ea =>
  cases (show u = Value.ref a from rx)
  obtain ⟨_, _, vs, _, p⟩ := (show bD X.prog X.w H s.heap a (.dK kvs) from I.ar a _ ea)
  obtain ⟨o, es, ep, h1, h2, _⟩ := p
  exact PySem.W.kia_one PySem.W.kitx_dict I.bP ⟨o, h1, h2.1⟩ e (fun z => nomatch z) h
 | @dT a kvs ea =>
  cases (show u = Value.ref a from rx)
  obtain ⟨_, _, xs, _, o, es, ep, h1, h2, _⟩ := (show bD X.prog X.w H s.heap a (.dT kvs) from I.ar a _ ea)
  exact PySem.W.kia_one PySem.W.kitx_dict I.bP ⟨o, h1, h2.1⟩ e (fun z => nomatch z) h
 | @ins a C dx fs ea cl ha hn F4 hm =>
  cases (show u = Value.ref a from rx)
  obtain ⟨mA, O, _⟩ := sA I.ar ea
  obtain ⟨od, J, _⟩ := O.look
  exact PySem.W.kia_one (PySem.W.kitx_own (cl.get _) cl.hd ha hn F4 hm) I.bP J e (fun z => nomatch z) h
end
end L2
namespace L2
open PySem PySem.Spec PyProof.Rows
structure bQ (k : Nat) (A : Around) : Prop where
 hd : A.handled = none
 dp : A.depth + 3 * k + 5 < recursionLimit
 un : A.units + 16 * k + 200 < cLine
theorem bQ.mono {j k : Nat} {A : Around} (r : bQ k A) (h : j <= k) : bQ j A := ⟨r.hd, by have := r.dp; omega, by have := r.un; omega⟩
theorem bQ.deeper {k : Nat} {A : Around} (r : bQ (k + 1) A) (env : Env) : bQ k (A.deeper env) :=
 ⟨r.hd, by have := r.dp; show A.depth + 1 + 3 * k + 5 < _; omega, by have := r.un; show A.units + 3 + 16 * k + 200 < _; omega⟩
theorem MP {A : Around} {C : Addr} {us : List Value} {kw : List (Str × Value)} : (A.under (.builtin "type.__call__" ⟨.ref C :: us, kw⟩)).depth = A.depth + 1 := by
 first | rfl | simp [Around.under, Code.weight, Code.isCreation, Code.isGuard, Code.isCaller, Code.frames, Code.isFrame, guardIds]
theorem MQ {A : Around} {C : Addr} {us : List Value} {kw : List (Str × Value)} : (A.under (.builtin "type.__call__" ⟨.ref C :: us, kw⟩)).units = A.units + 1 := by
 first | rfl | simp [Around.under, Code.cUnits, Code.frames, Code.isFrame]
theorem bQ.make {k : Nat} {A : Around} (r : bQ (k + 1) A) (C : Addr) (us : List Value) (kw : List (Str × Value)) : bQ k (A.under (.builtin "type.__call__" ⟨.ref C :: us, kw⟩)) :=
 ⟨r.hd, by have := r.dp; rw [MP]; omega, by have := r.un; rw [MQ]; omega⟩
theorem bQ.depth {k : Nat} {A : Around} (r : bQ k A) : A.depth < recursionLimit := by have := r.dp; omega
theorem bQ.units {k : Nat} {A : Around} (r : bQ k A) : A.units + 64 < cLine := by have := r.un; omega
noncomputable def j4 : TA := fun _ H Q => Q [] H
noncomputable def lF (ta : TE) (tr : TA) : TA := fun σ H Q => ta σ H fun x H1 => tr σ H1 fun xs H2 => Q (x :: xs) H2
section
variable {X : Cx} {e : Expr} {es : List Expr} {te : TE} {t : TA} {pos : Pos}
theorem af : PA X [] j4 := fun _ _ _ _ H Q I h => Calls.spliced_nil ⟨[], H, I, .nil, h⟩
theorem aa (ha : PE X e te) (hr : PA X es t) (hs : starEach (e :: es) X.env = (false, eval e X.env) :: starEach es X.env := by rfl) : PA X (e :: es) (lF te t) := by
 intro pos pins s σ H Q I h
 rw [hs]
 show wpAny _ _ (spliced ((false, eval e X.env) :: backTo pos (starEach es X.env))) _ _ s
 refine Calls.spliced_cons (aB (ha pins s σ H _ I h) fun u s1 ⟨x, H1, I1, r1, q1⟩ => ?_)
 exact aB (hr pos pins s1 σ H1 _ I1 q1) fun us s2 ⟨xs, H2, I2, r2, q2⟩ => ⟨x :: xs, H2, I2, .cons r1 r2, q2⟩
noncomputable def pJ (t : TA) : TE := fun σ H Q => t σ H fun xs H1 => xs.length <= sizeLine /\ ∀ p, H1 p = none -> Q (.ref p) (upd H1 p (.tup xs))
noncomputable def pK (t : TA) : TE := fun σ H Q => t σ H fun xs H1 => xs.length <= sizeLine /\ ∀ p, H1 p = none -> Q (.ref p) (upd H1 p (.lst xs))
theorem aY {x1} (h : PA X es t) : PE X (.Tuple es x1 pos) (pJ t) := by
 intro pins s σ H Q I hq
 refine wpAny_Tuple_spliced (aB (h pos pins s σ H _ I hq) fun us s1 ⟨xs, H1, I1, r, z, q⟩ => ⟨by rw [<- r.length]; exact z, ?_⟩)
 have hf : H1 s1.heap.objs.size = none := I1.ar.fresh (Nat.le_refl _)
 refine ⟨.ref s1.heap.objs.size, upd H1 s1.heap.objs.size (.tup xs), I1.laid (t' := s1.toks) (fun b u e => Heap.get?_push_of_some _ e) (Nat.le_refl _) ?_, rfl, q _ hf⟩
 exact ⟨z, us, r, ⟨_, Heap.get?_push_size _ rfl, rfl, _, rfl⟩⟩
theorem cN (h : PA X es t) : PE X (.List es pos) (pK t) := by
 intro pins s σ H Q I hq
 refine wpAny_List_spliced (aB (h pos pins s σ H _ I hq) fun us s1 ⟨xs, H1, I1, r, z, q⟩ => ⟨by rw [<- r.length]; exact z, ?_⟩)
 have hf : H1 s1.heap.objs.size = none := I1.ar.fresh (Nat.le_refl _)
 refine ⟨.ref s1.heap.objs.size, upd H1 s1.heap.objs.size (.lst xs), I1.laid (t' := s1.toks) (fun b u e => Heap.get?_push_of_some _ e) (Nat.le_refl _) ?_, rfl, q _ hf⟩
 exact ⟨z, us, 0, r, Heap.get?_push_size _ rfl⟩
end
noncomputable abbrev Sp := List V -> Hp -> VK -> XK -> Prop
noncomputable abbrev cV := List Env -> Hp -> Shared -> XK -> Value -> Shared -> Prop
structure j5 (P : Program) (w : World) (K : PySem.W.Frag) (mg : Str -> Option Value) (base : Heap) (A : Around) (outer : List Env) (s : Shared) (H : Hp) : Prop where
 frames : A.frames = some outer
 mod : Mod K mg base
 bs : ∀ b o, base.get? b = some o -> s.heap.get? b = some o /\ H b = none
 bsz : base.objs.size <= s.heap.objs.size
 dq : s.heap.FunFrames base outer
 frf : ∀ b ∈ aT outer, H b = none
 ar : bM P w H s.heap
 bare : AllBare s.gens
noncomputable def CE (outer : List Env) (P : Program) (w : World) (H : Hp) (s : Shared) (Q : VK) (u : Value) (s' : Shared) : Prop :=
 ∃ v H', s'.os = s.os /\ AllBare s'.gens /\ Un (aT outer) [] H H' s.heap s'.heap /\ bM P w H' s'.heap /\ RelV v u /\ Q v H'
noncomputable def CR (CX : cV) (outer : List Env) (P : Program) (w : World) (H : Hp) (s : Shared) (Q : VK) (E : XK) (r : Result) (s' : Shared) : Prop :=
 match r with
 | .ok (.ret u) => CE outer P w H s Q u s'
 | .ok _ => False
 | .error e => CX outer H s E e s'
structure aJ (P : Program) (w : World) (K : PySem.W.Frag) (mg : Str -> Option Value) (base : Heap) (CX : cV) (k : Nat) (f : Addr) (fd : FuncData) (ps : List Str) (sp : Sp) : Prop where
 len : ∀ vs H Q E, sp vs H Q E -> vs.length = ps.length
 run : ∀ (A : Around) (outer : List Env) (s : Shared) (H : Hp) (args : Args) (us : List Value) (vs : List V) (Q : VK) (E : XK), bQ k A -> j5 P w K mg base A outer s H -> BindsTo s fd args (ps.zip us) -> Vals vs us -> sp vs H Q E ->
  codeAny (model P w) A (.call (.ref f) args) (CR CX outer P w H s Q E) s
theorem aJ.imp {P : Program} {w : World} {K : PySem.W.Frag} {mg : Str -> Option Value} {base : Heap} {CX : cV} {k : Nat} {f : Addr} {fd : FuncData} {ps : List Str} {sp F5 : Sp} (F : aJ P w K mg base CX k f fd ps sp)
 (h : ∀ vs H Q E, F5 vs H Q E -> sp vs H Q E) : aJ P w K mg base CX k f fd ps F5 :=
 ⟨fun vs H Q E q => F.len vs H Q E (h _ _ _ _ q), fun A outer s H args us vs Q E hr he hb hv hs => F.run A outer s H args us vs Q E hr he hb hv (h _ _ _ _ hs)⟩
theorem j5.make {P : Program} {w : World} {K : PySem.W.Frag} {mg : Str -> Option Value} {base : Heap} {A : Around} {outer : List Env} {s : Shared} {H : Hp} (e : j5 P w K mg base A outer s H) (C : Addr) (us : List Value) (kw : List (Str × Value)) :
 j5 P w K mg base (A.under (.builtin "type.__call__" ⟨.ref C :: us, kw⟩)) outer s H := ⟨by first | exact e.frames | (simpa [Around.under, Code.envs, Code.isFrame, pushEnvs] using e.frames), e.mod, e.bs, e.bsz, e.dq, e.frf, e.ar, e.bare⟩
section
variable {X : Cx} {pins : List (Addr × Obj)} {σ : St} {H : Hp} {s s' : Shared}
theorem Inv.F6 (I : Inv X pins σ H s) : j5 X.prog X.w X.K X.mg X.base X.A X.stack s H :=
 ⟨I.ok.frames, I.ok.mod, I.bs, Nat.le_trans I.ok.bsz I.sz, I.stack, I.k6, I.ar, I.bare⟩
theorem Inv.after {Q : VK} {u : Value} (I : Inv X pins σ H s) (h : CE X.stack X.prog X.w H s Q u s') : EP X pins σ Q u s' := by
 obtain ⟨v, H', os, bare, un, ar, r, q⟩ := h
 obtain ⟨hh, g, d, t, sC⟩ := s'
 obtain rfl : sC = s.os := os
 exact ⟨v, H', I.call (h' := hh) (g' := g) (d' := d) (t' := t) (ch := []) un ar bare (fun b z => absurd z (by simp)), r, q⟩
end
noncomputable def pL (sp : Sp) (bU : List V) (E : XK) (t : TA) : TE := fun σ H Q => t σ H fun vs H1 => sp (vs ++ bU) H1 Q E
noncomputable def lG (C : Addr) (m : Str) (sp : Sp) (bU : List V) (E : XK) (ta : TE) (t : TA) : TE := fun σ H Q => ta σ H fun x H1 => ∃ a dx fs, x = .ref a /\ H1 a = some (.ins C dx fs) /\ fs.lookup m = none /\
 t σ H1 fun vs H2 => sp (x :: (vs ++ bU)) H2 Q E
noncomputable def pM (C : Addr) (sp : Sp) (bU : List V) (E : XK) (t : TA) : TE := fun σ H Q => t σ H fun vs H1 => ∀ x dx, H1 x = none -> H1 dx = none -> dx ≠ x ->
 sp (.ref x :: (vs ++ bU)) (upd (upd H1 dx (.own x)) x (.ins C dx [])) (fun v H2 => v = .non /\ Q (.ref x) H2) E
noncomputable def Binds (K : PySem.W.Frag) (fd : FuncData) (ps : List Str) (ds : List Value) : Prop :=
 ∀ (s : Shared) (us : List Value), K.In s.heap -> (us ++ ds).length = ps.length -> BindsTo s fd ⟨us, []⟩ (ps.zip (us ++ ds))
theorem Binds.all {K : PySem.W.Frag} {fd : FuncData} {ps : List Str} (h : ∀ us : List Value, us.length = ps.length -> bindArgs fd ⟨us, []⟩ = pure (ps.zip us)) : Binds K fd ps [] := fun s us _ hl => by
 rw [List.append_nil] at hl ⊢
 exact .of_eq (h us hl)
noncomputable def Passes (CX : cV) (X : Cx) (E : XK) : Prop := ∀ (pins : List (Addr × Obj)) (σ : St) (H : Hp) (s : Shared) (e : Value) (s' : Shared), Inv X pins σ H s -> CX X.stack H s E e s' -> X.xe e s'
section
variable {X : Cx} {CX : cV} {k : Nat} {f C : Addr} {fd : FuncData} {ps : List Str} {sp : Sp} {bU : List V} {ds : List Value} {E : XK} {x m : Str} {p pos apos : Pos} {e o : Expr} {es : List Expr} {ta : TE} {t : TA}
theorem yM {pins : List (Addr × Obj)} {σ : St} {H : Hp} {s : Shared} {Q : VK} {us : List Value} {vs : List V} (F : aJ X.prog X.w X.K X.mg X.base CX k f fd ps sp) (hr : bQ k X.A) (hb : Binds X.K fd ps ds) (hd : Vals bU ds) (hx : Passes CX X E)
 (I : Inv X pins σ H s) (r : Vals vs us) (h : sp (vs ++ bU) H Q E) : wpAny (model X.prog X.w) X.A (call (.ref f) us) (EP X pins σ Q) X.xe s := by
 have r2 : Vals (vs ++ bU) (us ++ ds) := r.append hd
 have hl : (us ++ ds).length = ps.length := by rw [<- r2.length]; exact F.len _ _ _ _ h
 refine wpAny_call (codeAny_mono (F.run X.A X.stack s H ⟨us, []⟩ (us ++ ds) (vs ++ bU) Q E hr I.F6 (hb s us I.bP hl) r2 h) fun r s' hq => ?_)
 cases r with
 | error e => exact hx pins σ H s e s' I hq
 | ok fl =>
  cases fl with
  | ret u => exact I.after hq
  | next => exact False.elim hq
  | brk => exact False.elim hq
  | cont => exact False.elim hq
theorem aE (F : aJ X.prog X.w X.K X.mg X.base CX k f fd ps sp) (hr : bQ k X.A) (hg : Gl X x) (hm : X.mg x = some (.ref f)) (hk : PySem.W.keepIn X.K (.ref f) = true) (hb : Binds X.K fd ps ds) (hd : Vals bU ds) (hx : Passes CX X E)
 (ha : PA X (e :: es) t) (gx : (x == ("__debug__" : Str)) = false := by decide) (he : starEach (e :: es) X.env = (false, eval e X.env) :: starEach es X.env := by rfl) (eM : (backTo pos (starEach es X.env)).any (·.1) = false := by rfl) :
 PE X (.Call (.Name x p) (e :: es) [] pos) (pL sp bU E t) := by
 intro pins s σ H Q I h
 refine wpAny_Call_Name_kw (oT I hg hm ?_ gx)
 refine PySem.W.callWith_K (h₀ := X.base) I.ok.mod.kin hk (aB (ha pos pins s σ H _ I h) fun us s1 ⟨vs, H1, I1, r, q⟩ => ⟨I1.bP, ?_⟩) he eM
 exact yM F hr hb hd hx I1 r q
theorem yN {pl : Sem Bool} (he : PE X o ta) (c : eK X.K C) (hm : Meth X.K C m f) (F : aJ X.prog X.w X.K X.mg X.base CX k f fd ps sp) (hr : bQ k X.A) (hb : Binds X.K fd ps ds) (hd : Vals bU ds) (hx : Passes CX X E) (ha : PA X (e :: es) t)
 (cn : starEach (e :: es) X.env = (false, eval e X.env) :: starEach es X.env := by rfl) (eM : (backTo pos (starEach es X.env)).any (·.1) = false := by rfl)
 (ht : eval (.Call (.Attribute o m apos) (e :: es) [] pos) X.env = (do
   let ov <- eval o X.env
   standAt apos.atName
   let (f, first) <- holding [ov] (getMethod ov m pl)
   callWith pos f first (backTo pos (starEach (e :: es) X.env)) (backToKw pos (keywordEach [] X.env))) := by rfl) :
 PE X (.Call (.Attribute o m apos) (e :: es) [] pos) (lG C m sp bU E ta t) := by
 intro pins s σ H Q I h
 refine PySem.W.methodCall_KW (pl := pl) (aB (he pins s σ H _ I h) fun u s1 ⟨x, H1, I1, rx, a, dx, fs, ex, ea, l, q⟩ => ?_) ht
 subst ex
 obtain rfl : u = Value.ref a := rx
 refine F3 I1 ea c hm l ?_
 refine PySem.W.callWith_K (first := [.ref a]) (h₀ := X.base) I.ok.mod.kin hm.kp (aB (ha pos pins s1 σ H1 _ I1 q) fun us s2 ⟨vs, H2, I2, r, q2⟩ => ⟨I2.bP, ?_⟩) cn eM
 exact yM (us := .ref a :: us) (vs := .ref a :: vs) F hr hb hd hx I2 (.cons rfl r) q2
theorem yO {pl : Sem Bool} (he : PE X o ta) (c : eK X.K C) (hm : Meth X.K C m f) (F : aJ X.prog X.w X.K X.mg X.base CX k f fd ps sp) (hr : bQ k X.A) (hb : Binds X.K fd ps ds) (hd : Vals bU ds) (hx : Passes CX X E)
 (ht : eval (.Call (.Attribute o m apos) [] [] pos) X.env = (do
   let ov <- eval o X.env
   standAt apos.atName
   let (f, first) <- holding [ov] (getMethod ov m pl)
   callWith pos f first (backTo pos (starEach [] X.env)) (backToKw pos (keywordEach [] X.env))) := by rfl) :
 PE X (.Call (.Attribute o m apos) [] [] pos) (lG C m sp bU E ta j4) := by
 intro pins s σ H Q I h
 refine PySem.W.methodCall_KW (pl := pl) (aB (he pins s σ H _ I h) fun u s1 ⟨x, H1, I1, rx, a, dx, fs, ex, ea, l, q⟩ => ?_) ht
 subst ex
 obtain rfl : u = Value.ref a := rx
 refine F3 I1 ea c hm l ?_
 exact PySem.W.callWith_K0 (first := [.ref a]) I1.bP hm.kp (yM (us := [.ref a]) (vs := [.ref a]) F hr hb hd hx I1 (.cons rfl .nil) q)
structure Mk (K : PySem.W.Frag) (C f : Addr) : Prop where
 makes : PySem.W.makesIn K C = true
 init : PySem.W.findIn K (.ref C) "__init__" = some (some (.ref f))
 fn : PySem.W.isFn K (.ref f) = true
 kp : PySem.W.keepIn K (.ref C) = true
theorem MR {pins : List (Addr × Obj)} {σ : St} {H : Hp} {s : Shared} {Q : VK} {us : List Value} {vs : List V} (M : Mk X.K C f) (F : aJ X.prog X.w X.K X.mg X.base CX k f fd ps sp) (hr : bQ (k + 1) X.A) (hb : Binds X.K fd ps ds) (hd : Vals bU ds)
 (hx : Passes CX X E) (I : Inv X pins σ H s) (r : Vals vs us)
 (h : ∀ x dx, H x = none -> H dx = none -> dx ≠ x -> sp (.ref x :: (vs ++ bU)) (upd (upd H dx (.own x)) x (.ins C dx [])) (fun v H2 => v = .non /\ Q (.ref x) H2) E) :
 wpAny (model X.prog X.w) X.A (call (.ref C) us) (EP X pins σ Q) X.xe s := by
 have hq := h (s.heap.objs.size + 1) s.heap.objs.size (I.ar.fresh (Nat.le_succ _)) (I.ar.fresh (Nat.le_refl _)) (Nat.ne_of_lt (Nat.lt_succ_self _))
 have I2 := Inv.made (C := C) I
 have r2 : Vals (V.ref (s.heap.objs.size + 1) :: (vs ++ bU)) (Value.ref (s.heap.objs.size + 1) :: (us ++ ds)) := .cons rfl (r.append hd)
 have hl : (Value.ref (s.heap.objs.size + 1) :: us ++ ds).length = ps.length := by
  have e := r2.length
  rw [F.len _ _ _ _ hq] at e
  exact e.symm
 refine wpAny_call (MH (f := f) I.bP M.makes M.init (beq_iff_eq.mp M.fn) (codeAny_mono (F.run _ X.stack _ _ ⟨Value.ref (s.heap.objs.size + 1) :: us, []⟩ (Value.ref (s.heap.objs.size + 1) :: (us ++ ds)) _ _ E (hr.make C us [])
  (I2.F6.make C us []) (hb _ (Value.ref (s.heap.objs.size + 1) :: us) I2.bP hl) r2 hq) fun r s' pN => ?_))
 cases r with
 | error e => exact hx pins σ _ _ e s' I2 pN
 | ok fl =>
  cases fl with
  | ret u =>
   obtain ⟨v, H', I3, rv, ev, q3⟩ := I2.after pN
   subst ev
   exact ⟨rv, ⟨V.ref (s.heap.objs.size + 1), H', I3, rfl, q3⟩⟩
  | next => exact False.elim pN
  | brk => exact False.elim pN
  | cont => exact False.elim pN
theorem MS (M : Mk X.K C f) (F : aJ X.prog X.w X.K X.mg X.base CX k f fd ps sp) (hr : bQ (k + 1) X.A) (hg : Gl X x) (hm : X.mg x = some (.ref C)) (hb : Binds X.K fd ps ds) (hd : Vals bU ds) (hx : Passes CX X E)
 (ha : PA X (e :: es) t) (gx : (x == ("__debug__" : Str)) = false := by decide) (he : starEach (e :: es) X.env = (false, eval e X.env) :: starEach es X.env := by rfl) (eM : (backTo pos (starEach es X.env)).any (·.1) = false := by rfl) :
 PE X (.Call (.Name x p) (e :: es) [] pos) (pM C sp bU E t) := by
 intro pins s σ H Q I h
 refine wpAny_Call_Name_kw (oT I hg hm ?_ gx)
 refine PySem.W.callWith_K (h₀ := X.base) I.ok.mod.kin M.kp (aB (ha pos pins s σ H _ I h) fun us s1 ⟨vs, H1, I1, r, q⟩ => ⟨I1.bP, ?_⟩) he eM
 exact MR M F hr hb hd hx I1 r q
end
section
variable {X : Cx} {CX : cV} {k : Nat} {f C : Addr} {fd : FuncData} {ps ks : List Str} {sp : Sp} {E : XK} {x m : Str} {p pos apos acw : Pos} {e o : Expr} {es : List Expr} {kws : List Keyword} {te ta : TE} {t tk : TA} {nm : Option Str}
variable {g : List Value -> List Value -> List Value} {gV : List V -> List V -> List V}
end
structure aS (N P : List Str) (sc : Scope) : Prop where
 kind : sc.kind = .function
 co : sc.isCoroutine = false
 gen : sc.isGenerator = false
 nd : N.Nodup
 pre : N.take P.length = P
 par : ∀ x ∈ P, sc.names.lookup x = some .local ∨ sc.names.lookup x = some .cell
 nofree : ∀ y ∈ sc.names, y.2 ≠ .free
theorem F7 {kindOf : Str -> Option NameKind} {x : Str} : ∀ {binds : List (Str × Value)} {m : Str -> Option Value}, (∀ v, (x, v) ∉ binds) -> bindL kindOf binds m x = m x
 | [], _, _ => rfl
 | (n, v) :: r, m, h => by
  unfold bindL
  rw [F7 fun w hw => h w (List.mem_cons_of_mem _ hw)]
  split
  ·have : x ≠ n := by rintro rfl; exact h v List.mem_cons_self
   simp [this]
  ·rfl
theorem F8 {kindOf : Str -> Option NameKind} {x : Str} : ∀ {binds : List (Str × Value)} {m : Str -> Option Value}, (∀ v, (x, v) ∉ binds) -> bindC kindOf binds m x = m x
 | [], _, _ => rfl
 | (n, v) :: r, m, h => by
  unfold bindC
  rw [F8 fun w hw => h w (List.mem_cons_of_mem _ hw)]
  split
  ·rfl
  ·have : x ≠ n := by rintro rfl; exact h v List.mem_cons_self
   simp [this]
theorem F9 {kindOf : Str -> Option NameKind} {x : Str} {v : Value} : ∀ {P : List Str} {vs : List Value} {i : Nat} {m : Str -> Option Value}, P.Nodup -> P[i]? = some x -> vs[i]? = some v -> kindOf x = some .local ->
 bindL kindOf (P.zip vs) m x = some v
 | [], _, _, _, _, h, _, _ => by simp at h
 | _ :: _, [], _, _, _, _, h, _ => by simp at h
 | p :: P, w :: vs, 0, m, nd, h1, h2, hk => by
  simp at h1 h2; subst h1; subst h2
  show bindL kindOf ((p, w) :: P.zip vs) m p = _
  unfold bindL
  rw [F7 fun v hv => (List.nodup_cons.mp nd).1 (List.of_mem_zip hv).1, if_pos hk]
  simp
 | p :: P, w :: vs, i + 1, m, nd, h1, h2, hk => by
  show bindL kindOf ((p, w) :: P.zip vs) m x = _
  unfold bindL
  exact F9 (i := i) (List.nodup_cons.mp nd).2 (by simpa using h1) (by simpa using h2) hk
theorem Ga {kindOf : Str -> Option NameKind} {x : Str} {v : Value} : ∀ {P : List Str} {vs : List Value} {i : Nat} {m : Str -> Option Value}, P.Nodup -> P[i]? = some x -> vs[i]? = some v -> kindOf x ≠ some .local ->
 bindC kindOf (P.zip vs) m x = some v
 | [], _, _, _, _, h, _, _ => by simp at h
 | _ :: _, [], _, _, _, _, h, _ => by simp at h
 | p :: P, w :: vs, 0, m, nd, h1, h2, hk => by
  simp at h1 h2; subst h1; subst h2
  show bindC kindOf ((p, w) :: P.zip vs) m p = _
  unfold bindC
  rw [F8 fun v hv => (List.nodup_cons.mp nd).1 (List.of_mem_zip hv).1, if_neg hk]
  simp
 | p :: P, w :: vs, i + 1, m, nd, h1, h2, hk => by
  show bindC kindOf ((p, w) :: P.zip vs) m x = _
  unfold bindC
  exact Ga (i := i) (List.nodup_cons.mp nd).2 (by simpa using h1) (by simpa using h2) hk
noncomputable def start (N : List Str) (vs : List V) : St := vs.map some ++ List.replicate (N.length - vs.length) none
noncomputable def ee (CX : cV) (P : Program) (w : World) (K : PySem.W.Frag) (mg : Str -> Option Value) (base : Heap) (N : List Str) (qual : Str) (scope : Scope) (f : Addr) (cd : Value) (A : Around) (outer : List Env) (s : Shared) (H : Hp) (E : XK) : Cx where
 prog := P
 w := w
 K := K
 mg := mg
 base := base
 A := A.deeper (envOfC qual scope s.heap.objs.size f cd)
 N := N
 s₀ := s
 H₀ := H
 env := envOfC qual scope s.heap.objs.size f cd
 outer := outer
 stack := envOfC qual scope s.heap.objs.size f cd :: outer
 ex := []
 calm := true
 fn := fun _ => true
 pn := []
 xe := fun e s' => wpAny (model P w) (A.deeper (envOfC qual scope s.heap.objs.size f cd)) (leaving (envOfC qual scope s.heap.objs.size f cd) e) (fun _ yP => CX outer H s E e yP) (fun e' yP => CX outer H s E e' yP) s'
theorem Gb {sc : Scope} {n : Nat} {x : Str} (h : sc.names.lookup x = some .cell) : ∃ c, (cellsFrom n sc.names []).lookup x = some c := by
 have q := PySem.W.cellsFrom_some sc.names n [] (.inl h)
 exact Option.isSome_iff_exists.mp q
theorem MT {CX : cV} {P : Program} {w : World} {K : PySem.W.Frag} {mg : Str -> Option Value} {base : Heap} {N ps : List Str} {qual : Str} {scope : Scope} {f : Addr} {cd : Value} {A : Around} {outer : List Env} {s s1 : Shared} {H : Hp} {E : XK} {us : List Value} {vs : List V}
 (S : aS N ps scope) (hd : A.handled = none) (e0 : j5 P w K mg base A outer s H) (hl : vs.length = ps.length) (r : Vals vs us)
 (x : InCallC s s.heap.objs.size (bindL (envOfC qual scope s.heap.objs.size f cd).kindOf (ps.zip us) fun _ => none) (cellsFrom (s.heap.objs.size + 1) scope.names []) (bindC (envOfC qual scope s.heap.objs.size f cd).kindOf (ps.zip us) fun _ => none) s1) :
 Inv (ee CX P w K mg base N qual scope f cd A outer s H E) [] (start N vs) H s1 := by
 have eM : ps.length <= N.length := by have := congrArg List.length S.pre; rw [List.length_take] at this; omega
 obtain ⟨h1, tk, rfl, hk⟩ := x.done
 have pO : ∀ b : Addr, b ∉ (ee CX P w K mg base N qual scope f cd A outer s H E).ex := fun b z => absurd (show b ∈ ([] : List Addr) from z) (by simp)
 refine ⟨⟨e0.mod, S.kind, rfl, rfl, Nat.le_refl _, fun y z c h1 h2 => ?_, fun y hy => ?_, fun y c _ h => ?_, fun _ => hd, Around.frames_deeper e0.frames, .inr ⟨rfl, rfl⟩, fun b z => absurd z (pO b), e0.bs, e0.bsz, fun b _ _ => pO b, fun b z => absurd z (pO b), e0.dq, e0.frf⟩,
  rfl, e0.bare, Un.kept hk, ⟨_, x.toInCall.ns, fun i y v h1 h2 h3 => ?_⟩, fun y c h => ⟨_, x.cell y c h⟩, e0.ar.fresh (Nat.le_refl _), fun y c h => ?_, fun p hp => absurd (show p ∈ ([] : List (Addr × Obj)) from hp) (by simp), e0.ar.kept hk, ?_⟩
 ·exact name_of_addr x.apart (PySem.mem_of_lookup h1) (PySem.mem_of_lookup h2)
 ·have hy : scope.names.lookup y = some .cell ∨ scope.names.lookup y = some .free := hy
  rcases hy with hy | hy
  ·exact Gb hy
  ·exact absurd rfl (S.nofree _ (PySem.mem_of_lookup hy))
 ·exact Nat.le_of_lt (x.above y c (PySem.mem_of_lookup h))
 ·have hi : i < vs.length := by
   unfold start at h2
   by_cases hi : i < vs.length
   ·exact hi
   ·rw [List.getElem?_append_right (by simpa using hi)] at h2
    rw [List.getElem?_replicate] at h2
    split at h2 <;> cases h2
  have ha : vs[i]? = some v := by
   unfold start at h2
   rw [List.getElem?_append_left (by simpa using hi), List.getElem?_map] at h2
   cases e : vs[i]? with
   | none => rw [e] at h2; cases h2
   | some a => rw [e] at h2; cases h2; rfl
  obtain ⟨u, hu, rv⟩ := r.get ha
  have hp : ps[i]? = some y := by
   rw [<- S.pre, List.getElem?_take_of_lt (by omega)]; exact h1
  have Ge : ps.Nodup := by rw [<- S.pre]; exact S.nd.sublist (List.take_sublist _ _)
  refine ⟨u, rv, ?_⟩
  rcases S.par y (List.mem_of_getElem? hp) with k | k
  ·exact .inl ⟨k, F9 Ge hp hu k⟩
  ·obtain ⟨c, e⟩ := Gb (n := s.heap.objs.size + 1) k
   refine .inr ⟨.inl k, c, e, ?_⟩
   have q := x.cell y c e
   rw [Ga Ge hp hu (by show scope.names.lookup y ≠ _; rw [k]; decide)] at q
   exact q
 ·exact e0.ar.fresh (Nat.le_of_lt (x.above y c (PySem.mem_of_lookup h)))
 ·unfold start
  show _ = N.length
  rw [List.length_append, List.length_map, List.length_replicate]
  omega
theorem Gf {CX : cV} {P : Program} {w : World} {K : PySem.W.Frag} {mg : Str -> Option Value} {base : Heap} {k : Nat} {f : Addr} {name qual : Str} {params : Arguments} {body : List Stmt} {scope : Scope} {dV kV doc pm aI ct oc : Value} {an od : Option Addr}
 {gy : Array (Option Value)} {N ps : List Str} {sp : Sp} (lk : K.lookup f = some ⟨oc, od, .func (PySem.W.fnOf name qual params body scope dV kV doc pm an aI ct), gy⟩) (eH : PySem.W.codeIn K aI qual = true) (S : aS N ps scope)
 (len : ∀ vs H Q E, sp vs H Q E -> vs.length = ps.length)
 (pP : ∀ (A : Around) (outer : List Env) (s : Shared) (H : Hp) (vs : List V) (Q : VK) (E : XK), bQ k (A.deeper (envOfC qual scope s.heap.objs.size f aI)) -> sp vs H Q E ->
   ∃ t, bg (ee CX P w K mg base N qual scope f aI A outer s H E) body t /\ t { nx := fun _ H' => Q .non H', rt := Q } (start N vs) H) :
 aJ P w K mg base CX (k + 1) f (PySem.W.fnOf name qual params body scope dV kV doc pm an aI ct) ps sp := by
 refine ⟨len, fun A outer s H args us vs Q E hr e0 hb r gW => ?_⟩
 have hl := len _ _ _ _ gW
 have KX : K.In s.heap := e0.mod.kin.keeps fun b o e => (e0.bs b o e).1
 have lim : s.heap.NoLimit := e0.mod.nolimit.keeps fun b o e => (e0.bs b o e).1
 have MU : ∀ y ∈ ps.zip us, scope.names.lookup y.1 = some .local ∨ (scope.names.lookup y.1 = some .cell /\ ((cellsFrom (s.heap.objs.size + 1) scope.names []).lookup y.1).isSome = true) := fun ⟨n, v⟩ hy => by
  rcases S.par n (List.of_mem_zip hy).1 with q | q
  ·exact .inl q
  ·exact .inr ⟨q, PySem.W.cellsFrom_some _ _ _ (.inl q)⟩
 refine codeAny_call_function hr.depth (KX _ _ lk) rfl S.co S.gen rfl (PySem.W.codeRec_of KX eH) (hb _ _ _ _ ?_)
 refine wpAny_newFunctionEnv_cells S.kind MU fun env he s1 x => ?_
 subst he
 refine ⟨lim.keeps x.toInCall.keep, codeAny_func ?_⟩
 obtain ⟨t, ht, hq⟩ := pP A outer s H vs Q E (hr.deeper _) gW
 have I : Inv (ee CX P w K mg base N qual scope f aI A outer s H E) [] (start N vs) H s1 := MT S hr.hd e0 hl r x
 refine wpAny_mono (ht [] s1 (start N vs) H _ I hq) (fun fl s' hs => ?_) fun e s' hs => hs
 have fin : ∀ {σ' : St} {H' : Hp} {v : V} {u : Value}, Inv (ee CX P w K mg base N qual scope f aI A outer s H E) [] σ' H' s' -> RelV v u -> Q v H' -> CE outer P w H s Q u s' :=
  fun {σ' H' v u} J rv q => ⟨v, H', J.os, J.bare, J.base, J.ar, rv, q⟩
 cases fl with
 | ret u =>
  obtain ⟨v, σ', H', J, rv, q⟩ := hs
  exact fin J rv q
 | next =>
  obtain ⟨σ', H', J, q⟩ := hs
  exact fin (v := V.non) (u := Value.none) J rfl q
 | brk =>
  obtain ⟨_, _, _, q⟩ := hs
  exact False.elim q
 | cont =>
  obtain ⟨_, _, _, q⟩ := hs
  exact False.elim q
end L2
namespace L2
open PySem PySem.Spec PyProof.Rows
section
variable {X : Cx} {x : Str} {p pos : Pos} {e : Expr} {es : List Expr} {t : TA} {id T : String} {r : List V -> Hp -> VK -> Prop}
noncomputable def lH (r : List V -> Hp -> VK -> Prop) (t : TA) : TE := fun σ H Q => t σ H fun vs H1 => r vs H1 Q
theorem a6 (hc : ed X (.builtin id) r) (hg : Gl X x) (hm : X.mg x = none) (hv : bootBuiltins x = some (.builtin id)) (ha : PA X (e :: es) t) (hn : x ≠ "__name__" := by decide) (gx : (x == ("__debug__" : Str)) = false := by decide)
 (he : starEach (e :: es) X.env = (false, eval e X.env) :: starEach es X.env := by rfl) (eM : (backTo pos (starEach es X.env)).any (·.1) = false := by rfl) : PE X (.Call (.Name x p) (e :: es) [] pos) (lH r t) := by
 intro pins s σ H Q I h
 refine wpAny_Call_Name_kw (dX I hg hm hv ?_ hn gx)
 exact PyProof.Rows.callWith_builtin1 (aB (ha pos pins s σ H _ I h) fun us s1 ⟨vs, H1, I1, r1, q1⟩ => hc pins s1 σ H1 vs us Q I1 r1 q1) he eM
theorem Gg (hc : ed X (.type T) r) (hg : Gl X x) (hm : X.mg x = none) (hv : bootBuiltins x = some (.type T)) (ha : PA X (e :: es) t) (hn : x ≠ "__name__" := by decide) (gx : (x == ("__debug__" : Str)) = false := by decide)
 (he : starEach (e :: es) X.env = (false, eval e X.env) :: starEach es X.env := by rfl) (eM : (backTo pos (starEach es X.env)).any (·.1) = false := by rfl) : PE X (.Call (.Name x p) (e :: es) [] pos) (lH r t) := by
 intro pins s σ H Q I h
 refine wpAny_Call_Name_kw (dX I hg hm hv ?_ hn gx)
 exact PyProof.Rows.callWith_type1 (aB (ha pos pins s σ H _ I h) fun us s1 ⟨vs, H1, I1, r1, q1⟩ => hc pins s1 σ H1 vs us Q I1 r1 q1) he eM
end
end L2
namespace HT
open PySem PyProof.Rows
noncomputable def lexLt : List Int -> List Int -> Bool
 | [], [] => false
 | [], _ :: _ => true
 | _ :: _, [] => false
 | x :: xs, y :: ys => if x = y then lexLt xs ys else decide (x < y)
section
open PySem.SeqAt
open PySem.AutoSeq1 (wpAny_loadPart')
open PySem.MeetsSeq PySem.MeetsSeq2 PySem.MeetsSeq3
end
section
variable {prog : Program} {w : World} {A : Around} {E : Value -> Shared -> Prop} {s : Shared}
theorem MV {t b : Addr} {vs ws : List Value} {Q : Value -> Shared -> Prop} (ht : IsTup s.heap t vs.toArray) (hb : IsTup s.heap b ws.toArray) (hv : vs ≠ [])
 (h1 : ws = [] -> Q (.ref t) s) (h2 : ws ≠ [] -> Q (.ref s.heap.objs.size) { s with heap := s.heap.push { cls := .type "tuple", data := .seq (vs ++ ws).toArray } })
 (b7 : vs.length + ws.length <= sizeLine) : wpAny (model prog w) A (binaryOp .Add (.ref t) (.ref b)) Q E s := by
 obtain ⟨⟨cls, dd, data, sl⟩, ho, hc, n, hd⟩ := id ht
 obtain ⟨⟨acx, Gh, data2, Gi⟩, sD, gX, n2, hd2⟩ := id hb
 simp only at hc hd gX hd2
 subst hc hd gX hd2
 have e : vs.toArray ++ ws.toArray = (vs ++ ws).toArray := by simp
 by_cases hw : ws = []
 ·exact concat_meets ⟨_, ho, rfl⟩ ⟨_, sD, rfl⟩ noFill_tuple_add seq_tuple_add PySem.F.slot_tuple_add PySem.F.entry_tuple_add (PySem.F.args_tuple_add_2 _ _)
   (tuple_addW1 t b vs.toArray ws.toArray n n2 dd Gh sl Gi (by simpa using hv) (by simp [hw])) ⟨ho, sD, h1 hw⟩
 ·refine concat_meets ⟨_, ho, rfl⟩ ⟨_, sD, rfl⟩ noFill_tuple_add seq_tuple_add PySem.F.slot_tuple_add PySem.F.entry_tuple_add (PySem.F.args_tuple_add_2 _ _)
   (tuple_addW2 t b vs.toArray ws.toArray n n2 dd Gh sl Gi (by simpa using hv) (by simpa using hw) (by rw [List.size_toArray, List.size_toArray]; exact b7)) ⟨ho, sD, ?_⟩
  rw [e]
  exact h2 hw
noncomputable def aW (n d : Nat) : Option Int -> Nat
 | none => d
 | some v => if v < 0 then (v + (n : Int)).toNat else min v.toNat n
theorem Gj (n d : Nat) : aW n d none = d := rfl
theorem Gk (n d k : Nat) : aW n d (some (k : Int)) = min k n := by
 show (if (k : Int) < 0 then ((k : Int) + (n : Int)).toNat else min (k : Int).toNat n) = min k n
 rw [if_neg (by omega), Int.toNat_natCast]
theorem MW (n d : Nat) (hd : d <= n) (o : Option Int) : aW n d o <= n := by
 cases o with
 | none => exact hd
 | some v =>
  show (if v < 0 then (v + (n : Int)).toNat else min v.toNat n) <= n
  by_cases hv : v < 0
  ·rw [if_pos hv]; omega
  ·rw [if_neg hv]; exact Nat.min_le_right _ _
theorem Gm (v : Int) (n d : Nat) : (if v < 0 then max (v + (n : Int)) 0 else min v (n : Int)) = ((aW n d (some v) : Nat) : Int) := by
 show (if v < 0 then max (v + (n : Int)) 0 else min v (n : Int)) = (((if v < 0 then (v + (n : Int)).toNat else min v.toNat n) : Nat) : Int)
 by_cases hv : v < 0
 ·simp only [if_pos hv]; omega
 ·simp only [if_neg hv]; omega
theorem MX (lo hi : Option Int) (n : Nat) : Builtin.Slice.sliceAdjust lo hi 1 (n : Int) = (((aW n 0 lo : Nat) : Int), ((aW n n hi : Nat) : Int)) := by
 have h1 : ¬ ((1 : Int) < 0) := by omega
 unfold Builtin.Slice.sliceAdjust
 simp only [h1, if_false]
 refine Prod.ext ?_ ?_
 ·cases lo with
  | none => rfl
  | some v => exact Gm v n 0
 ·cases hi with
  | none => rfl
  | some v => exact Gm v n n
theorem MY (i j : Nat) : Builtin.Slice.slicePlaces (i : Int) (j : Int) 1 = j - i := by
 unfold Builtin.Slice.slicePlaces
 have h1 : (1 : Int) > 0 := by omega
 simp only [h1, if_true, Int.ediv_one]
 split <;> omega
theorem Gn {v : Value} {o : Option Int} {Q : Option Int -> Shared -> Prop} (p : IsPart v o) (h : Q o s) : wpAny (model prog w) A (Builtin.Slice.slicePartIndex v) Q E s := by
 cases p with
 | none => exact slicePart_none h
 | int i t => exact slicePart_int h
theorem MZ {sl : Addr} {vl vu : Value} {lo hi : Option Int} {n : Nat} {Q : Int × Int × Nat -> Shared -> Prop} (hs : s.heap.IsSliceOf sl vl vu .none) (pl : IsPart vl lo) (pu : IsPart vu hi)
 (h : Q (((aW n 0 lo : Nat) : Int), 1, aW n n hi - aW n 0 lo) s) : wpAny (model prog w) A (Builtin.Slice.sliceApplied (.ref sl) (pure (n : Int))) Q E s := by
 obtain ⟨os, j6, hcs, hds⟩ := id hs
 unfold Builtin.Slice.sliceApplied Builtin.Slice.sliceFields
 refine wpAny_bind (wpAny_bind (wpAny_field j6 hds (x := vl) rfl (wpAny_bind (wpAny_field j6 hds (x := vu) rfl (wpAny_bind (wpAny_field j6 hds (x := .none) rfl (wpAny_pure ?_)))))))
 refine wpAny_bind (slicePart_none ?_)
 show wpAny _ _ (if ((1 : Int) == 0) = true then _ else _) _ _ s
 rw [if_neg (by decide)]
 refine wpAny_bind (Gn pl (wpAny_bind (Gn pu (wpAny_bind (wpAny_pure ?_)))))
 show wpAny _ _ (match Builtin.Slice.sliceAdjust lo hi 1 (n : Int) with | (lo, hi) => pure (lo, (1 : Int), Builtin.Slice.slicePlaces lo hi 1)) _ _ s
 rw [MX lo hi n]
 show wpAny _ _ (pure (((aW n 0 lo : Nat) : Int), (1 : Int), Builtin.Slice.slicePlaces ((aW n 0 lo : Nat) : Int) ((aW n n hi : Nat) : Int) 1)) _ _ s
 rw [MY]
 exact wpAny_pure h
theorem M0 (xs : Array Value) (i k : Nat) : ((List.range k).filterMap fun (m : Nat) => xs[((i : Int) + (m : Int) * 1).toNat]?).toArray = ((xs.toList.drop i).take k).toArray := by
 have e : (fun (m : Nat) => xs[((i : Int) + (m : Int) * 1).toNat]?) = fun m => xs[i + m]? := by
  funext m
  have : ((i : Int) + (m : Int) * 1).toNat = i + m := by omega
  rw [this]
 rw [e]
 have := pick_run xs i k
 rw [List.filterMap_map] at this
 have e2 : ((fun x => xs[x]?) ∘ fun x => i + x) = fun m => xs[i + m]? := rfl
 rw [e2] at this
 rw [this]
theorem M3 {t sl : Addr} {items : Array Value} {vl vu : Value} {lo hi : Option Int} {Q : Value -> Shared -> Prop} (ht : IsTup s.heap t items) (hs : s.heap.IsSliceOf sl vl vu .none) (pl : IsPart vl lo) (pu : IsPart vu hi)
 (hw : ¬ (aW items.size 0 lo = 0 /\ aW items.size items.size hi = items.size))
 (h : Q (.ref s.heap.objs.size) { s with heap := s.heap.push { cls := .type "tuple", data := .seq ((items.toList.drop (aW items.size 0 lo)).take (aW items.size items.size hi - aW items.size 0 lo)).toArray } })
 (b7 : items.size <= sizeLine) : wpAny (model prog w) A (getItem (.ref t) (.ref sl)) Q E s := by
 have sE : sizeOk (.seq ((items.toList.drop (aW items.size 0 lo)).take (aW items.size items.size hi - aW items.size 0 lo)).toArray) := by
  show ((items.toList.drop (aW items.size 0 lo)).take (aW items.size items.size hi - aW items.size 0 lo)).toArray.size <= sizeLine
  rw [List.size_toArray, List.length_take, List.length_drop, Array.length_toList]
  omega
 have hj : aW items.size items.size hi <= items.size := MW _ _ (Nat.le_refl _) hi
 obtain ⟨os, j6, hcs, hds⟩ := id hs
 have M4 : s.TypeIs (.ref sl) "slice" := ⟨os, j6, hcs⟩
 unfold getItem
 try with_reducible refine wpAny_holding ?_
 first | refine wpAny_bind (wpAny_pure ?_) | skip
 refine wpAny_bind (wpAny_sequenceKey ht.typeIs (by decide) ?_)
 refine wpAny_bind (wpAny_callSpecial?_slot (name := Str.ofString "__getitem__") ht.typeIs PyProof.Rows.slot_tuple_getitem
  (wpAny_call_entry PyProof.Rows.slot_tuple_getitem ht.typeIs entry_tuple_getitem ?_ (args_tuple_getitem _ _)))
 show wpAny _ _ (Builtin.Tuple.tupleItemsOf (.ref t) >>= _) _ _ s
 refine wpAny_bind (tupleItemsOf_ ht ?_)
 refine wpAny_bind (wpAny_typeOf M4 ?_)
 rw [if_pos (by decide)]
 refine wpAny_bind (MZ hs pl pu ?_)
 have eN : ¬ ((((aW items.size 0 lo : Nat) : Int) == 0 && (1 : Int) == 1 && (aW items.size items.size hi - aW items.size 0 lo) == items.size) = true) := by
  intro q
  rw [Bool.and_eq_true, Bool.and_eq_true] at q
  have q1 : ((aW items.size 0 lo : Nat) : Int) = 0 := eq_of_beq q.1.1
  have q2 : aW items.size items.size hi - aW items.size 0 lo = items.size := eq_of_beq q.2
  exact hw ⟨by omega, by omega⟩
 show wpAny _ _ (if (((aW items.size 0 lo : Nat) : Int) == 0 && (1 : Int) == 1 && (aW items.size items.size hi - aW items.size 0 lo) == items.size) = true then _ else _) _ _ s
 rw [if_neg eN, M0]
 first
  | exact wpAny_bind (m := Builtin.Tuple.tupleExact _) (wpAny_newObj_type (wpAny_pure ⟨_, rfl, wpAny_pure h⟩) sE)
  | exact wpAny_bind (m := Builtin.Tuple.tupleExact _) (wpAny_newObj_type (wpAny_bind (wpAny_pure (wpAny_pure ⟨_, rfl, wpAny_pure h⟩))) sE)
  | exact wpAny_bind (wpAny_bind (m := Builtin.Tuple.tupleExact _) (wpAny_newObj_type (wpAny_pure (wpAny_pure ⟨_, rfl, wpAny_pure h⟩)) sE))
  | exact wpAny_bind (wpAny_bind (m := Builtin.Tuple.tupleExact _) (wpAny_newObj_type (wpAny_pure ⟨_, rfl, wpAny_pure h⟩) sE))
end
end HT
namespace L2
open PySem PySem.Spec PyProof.Rows
noncomputable abbrev TO := St -> Hp -> (Option Int -> Hp -> Prop) -> Prop
noncomputable def PO (X : Cx) (e : Option Expr) (t : TO) : Prop :=
 ∀ (pins : List (Addr × Obj)) (s : Shared) (σ : St) (H : Hp) (Q : Option Int -> Hp -> Prop), Inv X pins σ H s -> t σ H Q ->
  wpAny (model X.prog X.w) X.A (evalPart e X.env) (fun u s' => ∃ o H', Inv X pins σ H' s' /\ IsPart u o /\ Q o H') X.xe s
noncomputable def pQ : TO := fun _ H Q => Q none H
noncomputable def pR (t : TE) : TO := fun σ H Q => t σ H fun x H1 => ∃ i, x = .int i /\ Q (some i) H1
section
variable {X : Cx} {e : Expr} {te : TE} {lo hi : Option Expr} {tl th : TO} {pos p2 : Pos}
theorem pS : PO X none pQ := by
 intro pins s σ H Q I h
 rw [evalPart_none]
 exact wpAny_pure ⟨none, H, I, .none, h⟩
theorem pU (h : PE X e te) : PO X (some e) (pR te) := by
 intro pins s σ H Q I hw
 rw [evalPart_some]
 refine aB (h pins s σ H _ I hw) fun u s1 ⟨x, H1, I1, r1, q1⟩ => ?_
 obtain ⟨i, rfl, q⟩ := q1
 obtain ⟨t, rfl⟩ := r1
 exact ⟨some i, H1, I1, .int i t, q⟩
noncomputable def yQ (X : Cx) (r : V -> Option Int -> Option Int -> Hp -> VK -> Prop) : Prop :=
 ∀ (pins : List (Addr × Obj)) (s : Shared) (σ : St) (H : Hp) (x : V) (v vl vu : Value) (lo hi : Option Int) (sl : Addr) (Q : VK), Inv X pins σ H s -> RelV x v -> s.heap.IsSliceOf sl vl vu .none -> IsPart vl lo -> IsPart vu hi -> r x lo hi H Q ->
  ∃ T id, typeLookup (.type T) "__getitem__" = pure (some (.builtin id)) /\ s.TypeIs v T /\ wpAny (model X.prog X.w) X.A (getItem v (.ref sl)) (EP X pins σ Q) X.xe s
noncomputable def pV (r : V -> Option Int -> Option Int -> Hp -> VK -> Prop) (te : TE) (tl th : TO) : TE := fun σ H Q => te σ H fun x H1 => tl σ H1 fun l H2 => th σ H2 fun u H3 => r x l u H3 Q
theorem pW {r : V -> Option Int -> Option Int -> Hp -> VK -> Prop} (hr : yQ X r) (he : PE X e te) (hl : PO X lo tl) (hu : PO X hi th) : PE X (.Subscript e (.Slice lo hi none p2) pos) (pV r te tl th) := by
 intro pins s σ H Q I h
 refine Subscript_ (aB (he pins s σ H _ I h) fun v s1 ⟨x, H1, I1, r1, q1⟩ => ?_)
 refine wpAny_Slice (aB (hl pins s1 σ H1 _ I1 q1) fun vl s2 ⟨l, H2, I2, pl, q2⟩ => aB (hu pins s2 σ H2 _ I2 q2) fun vu s3 ⟨u, H3, I3, pu, q3⟩ => ?_)
 rw [evalPart_none]
 refine wpAny_pure ?_
 have I4 : Inv X pins σ H3 { s3 with heap := s3.heap.push { cls := .type "slice", data := .fields #[vl, vu, .none] } } := I3.kept (t' := s3.toks) fun b ob q => Heap.get?_push_of_some _ q
 obtain ⟨T, id, hT, ht, hg⟩ := hr pins { s3 with heap := s3.heap.push { cls := .type "slice", data := .fields #[vl, vu, .none] } } σ H3 x v vl vu l u s3.heap.objs.size Q I4 r1 (Heap.IsSliceOf.new ..) pl pu q3
 show wpAny (model X.prog X.w) X.A (subscriptTail e (.Slice lo hi none p2) v (.ref s3.heap.objs.size)) (EP X pins σ Q) X.xe { s3 with heap := s3.heap.push { cls := .type "slice", data := .fields #[vl, vu, .none] } }
 exact tail_any (ops := [.ref s3.heap.objs.size, v]) ht hT hg (by with_unfolding_all rfl)
noncomputable def eO (xs : List V) (lo hi : Option Int) : List V := (xs.drop (HT.aW xs.length 0 lo)).take (HT.aW xs.length xs.length hi - HT.aW xs.length 0 lo)
theorem Gp (xs : List V) (lo hi : Option Int) : (eO xs lo hi).length <= xs.length := by
 unfold eO
 rw [List.length_take, List.length_drop]
 omega
noncomputable def M5 (K : PySem.W.Frag) : V -> Option Int -> Option Int -> Hp -> VK -> Prop := fun x lo hi H Q => ∃ a xs, x = .ref a /\ ai K H a xs /\
 ¬ (HT.aW xs.length 0 lo = 0 /\ HT.aW xs.length xs.length hi = xs.length) /\ ∀ p, H p = none -> Q (.ref p) (upd H p (.tup (eO xs lo hi)))
theorem Gq : yQ X (M5 X.K) := by
 intro pins s σ H x v vl vu lo hi sl Q I rx hs pl pu h
 obtain ⟨a, xs, rfl, hx, hw, q⟩ := h
 cases rx
 obtain ⟨ag, r, ht, hz⟩ := I.tuple hx
 have hlen : ag.toArray.size = xs.length := by rw [List.size_toArray]; exact r.length.symm
 refine ⟨"tuple", _, PyProof.Rows.slot_tuple_getitem.lookup, ht.typeIs, ?_⟩
 refine HT.M3 ht hs pl pu (by rw [hlen]; exact hw) ?_ (by rw [hlen]; exact hz)
 rw [hlen]
 refine ⟨.ref s.heap.objs.size, _, I.laid (t' := s.toks) (o := .tup (eO xs lo hi)) (fun b ob q => Heap.get?_push_of_some _ q) (Nat.le_refl _) ?_, rfl, q _ (I.ar.fresh (Nat.le_refl _))⟩
 exact ⟨Nat.le_trans (Gp xs lo hi) hz, _, (r.drop (HT.aW xs.length 0 lo)).take (HT.aW xs.length xs.length hi - HT.aW xs.length 0 lo), IsTup.new _ _⟩
noncomputable def Gr (K : PySem.W.Frag) : R2 := fun x y H Q => ∃ a b xs ys, x = .ref a /\ y = .ref b /\ ai K H a xs /\ ai K H b ys /\ xs ≠ [] /\ xs.length + ys.length <= sizeLine /\
 (ys = [] -> Q (.ref a) H) /\ (ys ≠ [] -> ∀ p, H p = none -> Q (.ref p) (upd H p (.tup (xs ++ ys))))
theorem Vals.yR {xs : List V} {us : List Value} (r : Vals xs us) : us = [] ↔ xs = [] := by
 cases r with
 | nil => simp
 | cons _ _ => simp
theorem M6 : bI X (binaryOp .Add) (Gr X.K) := by
 intro pins s σ H x y v u Q I rx ry h
 obtain ⟨a, b, xs, ys, rfl, rfl, ha, hb, hx, hz, q1, q2⟩ := h
 cases rx
 cases ry
 obtain ⟨ag, r1, p1, _⟩ := I.tuple ha
 obtain ⟨yS, r2, p2, _⟩ := I.tuple hb
 refine HT.MV p1 p2 (fun z => hx (r1.yR.mp z)) (fun z => ⟨.ref a, H, I, rfl, q1 (r2.yR.mp z)⟩) (fun z => ?_) (by rw [<- r1.length, <- r2.length]; exact hz)
 refine ⟨.ref s.heap.objs.size, _, I.laid (t' := s.toks) (o := .tup (xs ++ ys)) (fun b ob q => Heap.get?_push_of_some _ q) (Nat.le_refl _) ?_, rfl, q2 (fun w => z (r2.yR.mpr w)) _ (I.ar.fresh (Nat.le_refl _))⟩
 exact ⟨by rw [List.length_append]; exact hz, _, r1.append r2, IsTup.new _ _⟩
end
end L2
namespace L2
open PySem PySem.Spec PyProof.Rows
noncomputable def fo (n : Nat) (i : Int) : Option Nat := if 0 <= i then (if i < n then some i.toNat else none) else if -(n : Int) <= i then some (i + n).toNat else none
noncomputable def b8 {α : Type} (xs : List α) (i : Int) : Option α := (fo xs.length i).bind fun j => xs[j]?
theorem Gs {n : Nat} {i : Int} {j : Nat} (h : fo n i = some j) : seqIndex? i n = some j /\ j < n /\ -(n : Int) <= i /\ i < n := by
 unfold fo at h
 by_cases h0 : 0 <= i
 ·rw [if_pos h0] at h
  by_cases h1 : i < n
  ·rw [if_pos h1] at h
   have e : i.toNat = j := Option.some.inj h
   exact ⟨by rw [seqIndex_of h0 h1, e], by omega, by omega, h1⟩
  ·rw [if_neg h1] at h; cases h
 ·rw [if_neg h0] at h
  by_cases h1 : -(n : Int) <= i
  ·rw [if_pos h1] at h
   have e : (i + n).toNat = j := Option.some.inj h
   exact ⟨by rw [seqIndex_neg (by omega) h1, e], by omega, h1, by omega⟩
  ·rw [if_neg h1] at h; cases h
theorem yT {α : Type} {xs : List α} {i : Int} {v : α} (h : b8 xs i = some v) : ∃ j, seqIndex? i xs.length = some j /\ xs[j]? = some v /\ j < xs.length /\ -(xs.length : Int) <= i /\ i < xs.length := by
 unfold b8 at h
 cases e : fo xs.length i with
 | none => rw [e] at h; cases h
 | some j =>
  rw [e] at h
  obtain ⟨h1, h2, h3, h4⟩ := Gs e
  exact ⟨j, h1, h, h2, h3, h4⟩
theorem df {α : Type} {xs : List α} {j : Nat} {v : α} (h : xs[j]? = some v) : b8 xs (j : Int) = some v := by
 have hj : j < xs.length := (List.getElem?_eq_some_iff.mp h).1
 have e : fo xs.length (j : Int) = some j := by
  unfold fo
  rw [if_pos (by omega), if_pos (by omega)]; simp
 unfold b8; rw [e]; exact h
theorem Gu {α : Type} (xs : List α) (v : α) : b8 (xs ++ [v]) (-1) = some v := by
 have hl : (xs ++ [v]).length = xs.length + 1 := by simp
 have e : fo (xs ++ [v]).length (-1) = some xs.length := by
  unfold fo
  rw [hl, if_neg (by decide), if_pos (by omega)]
  congr 1
  omega
 unfold b8
 rw [e]
 show (xs ++ [v])[xs.length]? = some v
 simp
noncomputable def M7 (b : Expr) : Prop := ∀ o i, subscripted b false o i = operate [o, i] (getItem o i)
noncomputable def fQ (X : Cx) (r : R2) : Prop :=
 ∀ (value slice : Expr) (pins : List (Addr × Obj)) (s : Shared) (σ : St) (H : Hp) (x y : V) (v u : Value) (Q : VK), Inv X pins σ H s -> RelV x v -> RelV y u -> r x y H Q ->
  subscripted slice false v u = operate [v, u] (getItem v u) -> wpAny (model X.prog X.w) X.A (subscriptTail value slice v u) (EP X pins σ Q) X.xe s
noncomputable def Gv (X : Cx) (id : String) (r : V -> List V -> Hp -> VK -> Prop) : Prop :=
 ∀ (pins : List (Addr × Obj)) (s : Shared) (σ : St) (H : Hp) (x : V) (xs : List V) (v : Value) (us : List Value) (Q : VK), Inv X pins σ H s -> RelV x v -> Vals xs us -> r x xs H Q ->
  wpAny (model X.prog X.w) X.A (call (.builtin id) (v :: us)) (EP X pins σ Q) X.xe s
section
variable {X : Cx} {a b : Expr} {ta tb : TE} {pos : Pos}
theorem fQ.or {r r' : R2} (h : fQ X r) (h' : fQ X r') : fQ X (fun x y H Q => r x y H Q ∨ r' x y H Q) := by
 intro value slice pins s σ H x y v u Q I rx ry q hs
 rcases q with q | q
 ·exact h value slice pins s σ H x y v u Q I rx ry q hs
 ·exact h' value slice pins s σ H x y v u Q I rx ry q hs
theorem ak {r : R2} (hr : fQ X r) (ha : PE X a ta) (hb : PE X b tb) (hs : M7 b) : PE X (.Subscript a b pos) (gU r ta tb) := by
 intro pins s σ H Q I h
 exact Subscript_ (yI ha hb I h fun v u s2 x y H2 I2 rx ry q => hr a b pins s2 σ H2 x y v u Q I2 rx ry q (hs _ _))
noncomputable def Gw (K : PySem.W.Frag) : R2 := fun x y H Q => ∃ p xs i v, x = .ref p /\ y = .int i /\ ah K H p xs /\ b8 xs i = some v /\ Q v H
noncomputable def Gx (K : PySem.W.Frag) : R2 := fun x y H Q => ∃ p xs i v, x = .ref p /\ y = .int i /\ ai K H p xs /\ b8 xs i = some v /\ Q v H
noncomputable def Gy : R2 := fun x y H Q => ∃ z i c, x = .str z /\ y = .int i /\ z.length <= sizeLine /\ b8 z.cps.toList i = some c /\ Q (.str ⟨#[c]⟩) H
theorem M8 : fQ X (Gw X.K) := by
 intro value slice pins s σ H x y v u Q I rx ry h hs
 obtain ⟨p, xs, i, z, rfl, rfl, hq, he, q⟩ := h
 cases rx
 obtain ⟨t, rfl⟩ := ry
 obtain ⟨ag, r, pl, hz⟩ := I.list hq
 obtain ⟨j, h1, h2, h3, h4, h5⟩ := yT he
 obtain ⟨w, ew, yU⟩ := r.get h2
 have hl := r.length
 have hn := pG
 have fin : EP X pins σ Q w s := ⟨z, H, I, yU, q⟩
 by_cases h0 : 0 <= i
 ·have hj : i.toNat = j := by
   rw [seqIndex_of h0 h5] at h1
   exact Option.some.inj h1
  exact item_listR pl.isList h0 (by omega) (by rw [hj]; simpa using ew) fin hs
 ·have hj : (i + (ag.toArray.size : Int)).toNat = j := by
   rw [seqIndex_neg (by omega) h4] at h1
   rw [List.size_toArray, <- hl]
   exact Option.some.inj h1
  exact subscriptTail_builtinR (x := w) pl.isList.typeIs slot_list_getitem.lookup
   (wpAny_getItem_list_neg (Q := fun r s' => r = w /\ EP X pins σ Q r s') pl.isList (by omega) (by rw [List.size_toArray] <;> omega) (by omega) (by rw [hj]; simpa using ew) ⟨rfl, fin⟩) hs
theorem M9 : fQ X (Gx X.K) := by
 intro value slice pins s σ H x y v u Q I rx ry h hs
 obtain ⟨p, xs, i, z, rfl, rfl, hq, he, q⟩ := h
 cases rx
 obtain ⟨t, rfl⟩ := ry
 obtain ⟨ag, r, pl, hz⟩ := I.tuple hq
 obtain ⟨j, h1, h2, h3, h4, h5⟩ := yT he
 obtain ⟨w, ew, yU⟩ := r.get h2
 have hl := r.length
 have hn := pG
 have fin : EP X pins σ Q w s := ⟨z, H, I, yU, q⟩
 exact subscriptTail_builtinR (x := w) pl.typeIs slot_tuple_getitem.lookup
  (getItem_tuple (j := j) (Q := fun r s' => r = w /\ EP X pins σ Q r s') pl (by omega) (by omega) (by rw [List.size_toArray, <- hl]; exact h1) (by simpa using ew) ⟨rfl, fin⟩) hs
theorem Na : fQ X Gy := by
 intro value slice pins s σ H x y v u Q I rx ry h hs
 obtain ⟨z, i, c, rfl, rfl, hz, he, q⟩ := h
 obtain ⟨t, rfl⟩ := rx
 obtain ⟨t', rfl⟩ := ry
 obtain ⟨j, h1, h2, h3, h4, h5⟩ := yT he
 have hl : z.cps.toList.length = z.length := by simp [Str.length]
 rw [hl] at h1 h4 h5
 have hn := pG
 exact tail_any (typeIs_str s z t) slot_str_getitem.lookup (getItem_str (c := c) (by
  have e1 : decide (i < -(2 ^ 63 : Int)) = false := decide_eq_false (by omega)
  have e2 : decide (i ≥ 2 ^ 63) = false := decide_eq_false (by omega)
  rw [e1, e2, Bool.or_false]) (by rw [h1]; simpa using h2) ⟨.str ⟨#[c]⟩, H, I.tok _, ⟨_, rfl⟩, q⟩) hs
noncomputable def sF (K : PySem.W.Frag) : R2 := fun x y H Q => Gw K x y H Q ∨ Gx K x y H Q ∨ Gy x y H Q
theorem ao : fQ X (sF X.K) := M8.or (M9.or Na)
theorem Nb (ag : List Value) (n j : Nat) (u : Value) : Obj.mapSeq (·.setIfInBounds j u) { cls := .type "list", data := .seq ag.toArray n } = { cls := .type "list", data := .seq (ag.set j u).toArray n } := by
 simp [Obj.mapSeq]
theorem Inv.lst {pins : List (Addr × Obj)} {σ : St} {H : Hp} {s : Shared} {p : Addr} {xs : List V} (I : Inv X pins σ H s) (h : H p = some (.lst xs)) :
 ∃ (ag : List Value) (n : Nat), Vals xs ag /\ s.heap.get? p = some { cls := .type "list", data := .seq ag.toArray n } /\ xs.length <= sizeLine := by
 obtain ⟨z, ag, n, r, e⟩ := I.ar p _ h
 exact ⟨ag, n, r, e, z⟩
theorem Inv.Nc {pins : List (Addr × Obj)} {σ : St} {H : Hp} {s : Shared} {p : Addr} {xs ys : List V} {ag its' : List Value} {n n' : Nat} {f : Obj -> Obj} (I : Inv X pins σ H s) (h : H p = some (.lst xs))
 (ho : s.heap.get? p = some { cls := .type "list", data := .seq ag.toArray n }) (hf : f { cls := .type "list", data := .seq ag.toArray n } = { cls := .type "list", data := .seq its'.toArray n' }) (r : Vals ys its') (hz : ys.length <= sizeLine) (t : Nat) :
 Inv X pins σ (upd H p (.lst ys)) { s with heap := s.heap.update p f, toks := t } := by
 have e : (s.heap.update p f).get? p = some { cls := .type "list", data := .seq its'.toArray n' } := by
  rw [Heap.get?_update_self f ho (by rw [hf] <;> rfl), hf]
 refine I.write (x := p) (e := p) (by rw [h]; trivial) (.inl rfl) (fun b u hb q => (Heap.get?_update_other _ _ (Ne.symm hb)).trans q) ⟨_, e⟩ ?_
 exact ⟨hz, its', n', r, e⟩
noncomputable def gA : V -> V -> V -> Hp -> (Hp -> Prop) -> Prop := fun o i v H Q => ∃ p xs k j, o = .ref p /\ i = .int k /\ H p = some (.lst xs) /\ fo xs.length k = some j /\ Q (upd H p (.lst (xs.set j v)))
theorem set_list : FQ X gA := by
 intro pins s σ H o i v ov iv u Q I ro ri rv h
 obtain ⟨p, xs, k, j, rfl, rfl, hp, hj, q⟩ := h
 cases ro
 obtain ⟨t, rfl⟩ := ri
 obtain ⟨ag, n, r, ho, hz⟩ := I.lst hp
 obtain ⟨h1, h2, h3, h4⟩ := Gs hj
 have hl := r.length
 have hn := pG
 have I' : Inv X pins σ (upd H p (.lst (xs.set j v))) { s with heap := s.heap.update p (Obj.mapSeq (·.setIfInBounds j u)) } :=
  I.Nc hp ho (Nb ag n j u) (r.set rv j) (by rw [List.length_set]; exact hz) s.toks
 by_cases h0 : 0 <= k
 ·have hk : k.toNat = j := by
   rw [seqIndex_of h0 h4] at h1
   exact Option.some.inj h1
  exact PySem.W.ki_setAt ho h0 (by omega) (by rw [List.size_toArray, <- hl]; exact h4) (by rw [hk]; exact ⟨_, I', q⟩)
 ·have hk : (k + (ag.toArray.size : Int)).toNat = j := by
   rw [seqIndex_neg (by omega) h3] at h1
   rw [List.size_toArray, <- hl]
   exact Option.some.inj h1
  exact PySem.W.ki_setBack ho (by omega) (by rw [List.size_toArray, <- hl]; exact h3) (by omega) (by rw [hk]; exact ⟨_, I', q⟩)
theorem Nd (lo hi : Option Int) (n : Nat) : (sliceBounds lo hi none n).1 = ((HT.aW n 0 lo : Nat) : Int) /\ (sliceBounds lo hi none n).2.1 = ((HT.aW n n hi : Nat) : Int) /\ (sliceBounds lo hi none n).2.2 = 1 := by
 refine ⟨?_, ?_, rfl⟩
 ·cases lo with
  | none => simp [sliceBounds, HT.aW]
  | some i =>
   simp only [sliceBounds, HT.aW, Option.getD_none, show (1 : Int) > 0 by decide, if_true]
   by_cases h : i < 0
   ·simp only [h, if_true] <;> omega
   ·simp only [h, if_false] <;> omega
 ·cases hi with
  | none => simp [sliceBounds, HT.aW]
  | some i =>
   simp only [sliceBounds, HT.aW, Option.getD_none, show (1 : Int) > 0 by decide, if_true]
   by_cases h : i < 0
   ·simp only [h, if_true] <;> omega
   ·simp only [h, if_false] <;> omega
theorem Nf (ag : List Value) (lo hi : Option Int) : slicePick ag.toArray lo hi none = ((ag.drop (HT.aW ag.length 0 lo)).take (HT.aW ag.length ag.length hi - HT.aW ag.length 0 lo)).toArray := by
 obtain ⟨h1, h2, h3⟩ := Nd lo hi ag.toArray.size
 unfold slicePick
 rw [h1, h2, h3]
 simp only [sliceRange_one, pick_run, List.size_toArray] <;> rfl
noncomputable def pX (K : PySem.W.Frag) : V -> Option Int -> Option Int -> Hp -> VK -> Prop := fun x lo hi H Q => ∃ a xs, x = .ref a /\ ah K H a xs /\ ∀ p, H p = none -> Q (.ref p) (upd H p (.lst (eO xs lo hi)))
theorem yV : yQ X (pX X.K) := by
 intro pins s σ H x v vl vu lo hi sl Q I rx hs pl pu h
 obtain ⟨a, xs, rfl, hx, q⟩ := h
 cases rx
 obtain ⟨ag, r, ht, hz⟩ := I.list hx
 have hlen := r.length
 refine ⟨"list", _, slot_list_getitem.lookup, ht.isList.typeIs, ?_⟩
 refine wpAny_getItem_list_slice ht.isList hs pl pu .none (by simp) ?_ (by rw [List.size_toArray] <;> omega)
 rw [Nf, <- hlen]
 refine ⟨.ref s.heap.objs.size, _, I.laid (t' := s.toks) (o := .lst (eO xs lo hi)) (fun b ob q => Heap.get?_push_of_some _ q) (Nat.le_refl _) ?_, rfl, q _ (I.ar.fresh (Nat.le_refl _))⟩
 exact ⟨Nat.le_trans (Gp xs lo hi) hz, _, 0, (r.drop (HT.aW xs.length 0 lo)).take (HT.aW xs.length xs.length hi - HT.aW xs.length 0 lo), Heap.get?_push_size _ rfl⟩
noncomputable def gY : V -> Bool
 | .non => true
 | .bl _ => true
 | .int _ => true
 | .str _ => true
 | _ => false
noncomputable def gZ : V -> V -> Bool
 | .non, .non => true
 | .bl a, .bl b => a == b
 | .bl a, .int b => (if a then 1 else 0) == b
 | .int a, .bl b => a == (if b then 1 else 0)
 | .int a, .int b => a == b
 | .str a, .str b => a == b
 | _, _ => false
theorem Ng {A : Around} {s : Shared} {y x : V} {u v : Value} (ry : RelV y u) (rx : RelV x v) (fy : gY y = true) (fx : gY x = true) : SeqAt.EqAt A s u v (gZ y x) := by
 cases y with
 | non =>
  cases ry
  cases x with
  | non => cases rx; exact SeqAt.EqAt.same _
  | bl b => cases rx; exact SeqAt.EqAt.none_bool b
  | int b => obtain ⟨t, rfl⟩ := rx; exact SeqAt.EqAt.none_int b t
  | str b => obtain ⟨t, rfl⟩ := rx; exact SeqAt.EqAt.none_str b t
  | _ => exact absurd (show false = true from fx) Bool.false_ne_true
 | bl a =>
  cases ry
  cases x with
  | non => cases rx; exact SeqAt.EqAt.bool_none a
  | bl b => cases rx; exact SeqAt.EqAt.bool_bool a b
  | int b => obtain ⟨t, rfl⟩ := rx; exact SeqAt.EqAt.bool_int a b t
  | str b => obtain ⟨t, rfl⟩ := rx; exact SeqAt.EqAt.bool_str a b t
  | _ => exact absurd (show false = true from fx) Bool.false_ne_true
 | int a =>
  obtain ⟨t', rfl⟩ := ry
  cases x with
  | non => cases rx; exact SeqAt.EqAt.int_none a t'
  | bl b => cases rx; exact SeqAt.EqAt.int_bool a t' b
  | int b => obtain ⟨t, rfl⟩ := rx; exact SeqAt.EqAt.int_int a t' b t
  | str b => obtain ⟨t, rfl⟩ := rx; exact SeqAt.EqAt.int_str a t' b t
  | _ => exact absurd (show false = true from fx) Bool.false_ne_true
 | str a =>
  obtain ⟨t', rfl⟩ := ry
  cases x with
  | non => cases rx; exact SeqAt.EqAt.str_none a t'
  | bl b => cases rx; exact SeqAt.EqAt.str_bool a t' b
  | int b => obtain ⟨t, rfl⟩ := rx; exact SeqAt.EqAt.str_int a t' b t
  | str b => obtain ⟨t, rfl⟩ := rx; exact SeqAt.EqAt.str_str a t' b t
  | _ => exact absurd (show false = true from fx) Bool.false_ne_true
 | _ => exact absurd (show false = true from fy) Bool.false_ne_true
noncomputable def dA (x : V) (u : Value) : Bool := match u with
 | .none => gZ .non x
 | .bool b => gZ (.bl b) x
 | .int i _ => gZ (.int i) x
 | .str z _ => gZ (.str z) x
 | _ => false
theorem GA {x y : V} {u : Value} (r : RelV y u) (f : gY y = true) : dA x u = gZ y x := by
 cases y with
 | non => cases r; rfl
 | bl b => cases r; rfl
 | int i => obtain ⟨t, rfl⟩ := r; rfl
 | str z => obtain ⟨t, rfl⟩ := r; rfl
 | _ => exact absurd (show false = true from f) Bool.false_ne_true
theorem pY {x : V} : ∀ {xs : List V} {us : List Value}, Vals xs us -> xs.all gY = true -> us.any (dA x) = xs.any fun y => gZ y x
 | _, _, .nil, _ => rfl
 | y :: xs, u :: us, .cons r t, f => by
  rw [List.all_cons, Bool.and_eq_true] at f
  rw [List.any_cons, List.any_cons, GA r f.1, pY t f.2]
theorem pZ {A : Around} {s : Shared} {x : V} {v : Value} (rx : RelV x v) (fx : gY x = true) : ∀ {xs : List V} {us : List Value}, Vals xs us -> xs.all gY = true -> ∀ u ∈ us, SeqAt.EqAt A s u v (dA x u)
 | _, _, .nil, _ => fun u hu => by cases hu
 | y :: xs, u :: us, .cons r t, f => fun u' hu => by
  rw [List.all_cons, Bool.and_eq_true] at f
  rcases List.mem_cons.mp hu with rfl | hu
  ·rw [GA r f.1]; exact Ng r rx f.1 fx
  ·exact pZ rx fx t f.2 u' hu
noncomputable def GB (x : V) (xs : List V) : Bool := xs.any fun y => gZ y x
noncomputable def yW (K : PySem.W.Frag) (neg : Bool) : R2 := fun x y H Q => ∃ p xs, y = .ref p /\ (ah K H p xs ∨ ai K H p xs) /\ gY x = true /\ xs.all gY = true /\ Q (.bl (if neg then !GB x xs else GB x xs)) H
theorem Nh : bI X (compareOp .In) (yW X.K false) := by
 intro pins s σ H x y v u Q I rx ry h
 obtain ⟨p, xs, rfl, hq, fx, fs, q⟩ := h
 cases ry
 rcases hq with hq | hq
 ·obtain ⟨ag, r, pl, hz⟩ := I.list hq
  refine SeqAt.in_listAt (dA x) pl.isList (fun w hw => pZ rx fx r fs w (by simpa using hw)) ⟨.bl _, H, I, rfl, ?_⟩
  rw [show ag.toArray.any (dA x) = ag.any (dA x) by simp, pY r fs]
  exact q
 ·obtain ⟨ag, r, pl, hz⟩ := I.tuple hq
  refine SeqAt.in_tupleAt (dA x) pl (fun w hw => pZ rx fx r fs w (by simpa using hw)) ⟨.bl _, H, I, rfl, ?_⟩
  rw [show ag.toArray.any (dA x) = ag.any (dA x) by simp, pY r fs]
  exact q
theorem GC : bI X (compareOp .NotIn) (yW X.K true) := by
 intro pins s σ H x y v u Q I rx ry h
 obtain ⟨p, xs, rfl, hq, fx, fs, q⟩ := h
 cases ry
 rcases hq with hq | hq
 ·obtain ⟨ag, r, pl, hz⟩ := I.list hq
  refine SeqAt.notIn_listAt (dA x) pl.isList (fun w hw => pZ rx fx r fs w (by simpa using hw)) ⟨.bl _, H, I, rfl, ?_⟩
  rw [show ag.toArray.any (dA x) = ag.any (dA x) by simp, pY r fs]
  exact q
 ·obtain ⟨ag, r, pl, hz⟩ := I.tuple hq
  refine SeqAt.notIn_tupleAt (dA x) pl (fun w hw => pZ rx fx r fs w (by simpa using hw)) ⟨.bl _, H, I, rfl, ?_⟩
  rw [show ag.toArray.any (dA x) = ag.any (dA x) by simp, pY r fs]
  exact q
theorem Ni : ed X (.type "list") (fun xs H Q => ∃ p ys, xs = [.ref p] /\ (ah X.K H p ys ∨ ai X.K H p ys) /\ ∀ l, H l = none -> Q (.ref l) (upd H l (.lst ys))) := by
 intro pins s σ H xs us Q I r h
 obtain ⟨p, ys, rfl, hq, q⟩ := h
 obtain ⟨u, rfl, rx⟩ := vals1 r
 cases rx
 have fin : ∀ (ag : List Value), Vals ys ag -> ys.length <= sizeLine -> ∀ (h' : Heap) (c' : Nat), (∀ b o', s.heap.get? b = some o' -> h'.get? b = some o') ->
  h'.get? s.heap.objs.size = some { cls := .type "list", dict := none, data := .seq ag.toArray c', slots := #[] } -> EP X pins σ Q (.ref s.heap.objs.size) { s with heap := h' } := fun ag r' hz h' c' kp e =>
  ⟨.ref s.heap.objs.size, _, I.laid (t' := s.toks) kp (Nat.le_refl _) (show bD X.prog X.w _ h' _ (.lst ys) from ⟨hz, ag, c', r', e⟩), rfl, q _ (I.ar.fresh (Nat.le_refl _))⟩
 rcases hq with hq | hq
 ·obtain ⟨ag, r', pl, hz⟩ := I.list hq
  have hlen := r'.length
  obtain ⟨o, ho, hc, n, hd⟩ := pl.isList
  exact call_list_seq p (.inl rfl) ho hc hd (fun h' c' kp e => fin ag r' hz h' c' kp e) (by simp only [List.size_toArray] <;> omega)
 ·obtain ⟨ag, r', pl, hz⟩ := I.tuple hq
  have hlen := r'.length
  obtain ⟨o, ho, hc, n, hd⟩ := pl
  exact call_list_seq p (.inr rfl) ho hc hd (fun h' c' kp e => fin ag r' hz h' c' kp e) (by simp only [List.size_toArray] <;> omega)
noncomputable def yX (K : PySem.W.Frag) (T : String) (x : V) (H : Hp) : Prop := match x with
 | .str _ => T = "str"
 | .int _ => T = "int"
 | .ref p => (T = "list" /\ ∃ xs, ah K H p xs) ∨ (T = "tuple" /\ ∃ o, K.lookup p = some o /\ o.cls = .type "tuple" /\ o.dict = none) ∨
  (T = "dict" /\ ((∃ kvs, H p = some (.dK kvs)) ∨ ∃ kvs, H p = some (.dT kvs))) ∨ (T = "set" /\ ∃ S n, H p = some (.set S n))
 | _ => False
theorem Nj {pins : List (Addr × Obj)} {σ : St} {H : Hp} {s : Shared} {T : String} {x : V} {v : Value} (I : Inv X pins σ H s) (r : RelV x v) (ty : yX X.K T x H) :
 s.TypeIs v T /\ ∀ a, v = .ref a -> ∃ ob, s.heap.get? a = some ob /\ ob.dict = none := by
 cases x with
 | str z =>
  obtain ⟨t, rfl⟩ := r
  cases (show T = "str" from ty)
  exact ⟨typeIs_str s z t, fun _ e => nomatch e⟩
 | int i =>
  obtain ⟨t, rfl⟩ := r
  cases (show T = "int" from ty)
  exact ⟨typeIs_int s i t, fun _ e => nomatch e⟩
 | ref p =>
  cases r
  rcases ty with ⟨rfl, xs, hq⟩ | ⟨rfl, o, hk, hc, hd⟩ | ⟨rfl, hk⟩ | ⟨rfl, S, n, hk⟩
  ·obtain ⟨ag, _, pl, _⟩ := I.list hq
   refine ⟨pl.isList.typeIs, fun a e => ?_⟩
   cases e
   obtain ⟨o, n, e, c, hd, _⟩ := pl
   exact ⟨o, e, hd⟩
  ·refine ⟨⟨o, I.bP p o hk, hc⟩, fun a e => ?_⟩
   cases e
   exact ⟨o, I.bP _ o hk, hd⟩
  ·have z : ∃ o, s.heap.get? p = some o /\ o.ExactDict := by
    rcases hk with ⟨kvs, hk⟩ | ⟨kvs, hk⟩
    ·obtain ⟨_, _, _, _, o, _, _, e, ex, _⟩ := I.ar p _ hk
     exact ⟨o, e, ex⟩
    ·obtain ⟨_, _, _, _, o, _, _, e, ex, _⟩ := I.ar p _ hk
     exact ⟨o, e, ex⟩
   obtain ⟨o, e, ex⟩ := z
   refine ⟨⟨o, e, ex.1⟩, fun a e2 => ?_⟩
   cases e2
   exact ⟨o, e, ex.2.1⟩
  ·obtain ⟨o, _, _, _, e, ex, _⟩ := I.ar p _ hk
   refine ⟨⟨o, e, ex.1⟩, fun a e2 => ?_⟩
   cases e2
   exact ⟨o, e, ex.2.1⟩
 | _ => exact False.elim ty
noncomputable def g6 (K : PySem.W.Frag) (T : String) (r : V -> List V -> Hp -> VK -> Prop) (to : TE) : TE := fun σ H Q => to σ H fun x H1 => yX K T x H1 /\ r x [] H1 Q
noncomputable def p8 (K : PySem.W.Frag) (T : String) (r : V -> List V -> Hp -> VK -> Prop) (to : TE) (t : TA) : TE := fun σ H Q => to σ H fun x H1 => yX K T x H1 /\ t σ H1 fun xs H2 => r x xs H2 Q
variable {o e : Expr} {es : List Expr} {to : TE} {t : TA} {name : Str} {apos cJ : Pos} {T id : String} {r : V -> List V -> Hp -> VK -> Prop}
theorem j7 (pa : PlainAttrs T) (slot : Slot T name id) (Nk : typeOf (.builtin id) = pure (.type "method_descriptor")) (hm : Gv X id r) (ho : PE X o to) (ha : PA X (e :: es) t)
 (Nl : attributeBase o name X.env (eval o X.env) = eval o X.env := by rfl)
 (Nm : ((backTo cJ (starEach (e :: es) X.env)).all (fun x => !x.1) && (backToKw cJ (keywordEach [] X.env)).all (fun x => x.1.isSome)
   && decide ((e :: es).length + ([] : List Keyword).length + (if ([] : List Keyword).isEmpty then 0 else 1) < 30)) = true := by rfl)
 (Nn : (apos.endLine == cJ.line) = true := by rfl) (hs : starEach (e :: es) X.env = (false, eval e X.env) :: starEach es X.env := by rfl) (Np : (backTo cJ (starEach es X.env)).any (·.1) = false := by rfl) :
 PE X (.Call (.Attribute o name apos) (e :: es) [] cJ) (p8 X.K T r to t) := by
 intro pins s σ H Q I h
 refine wpAny_Call_method_late Nl Nm Nn rfl (aB (ho pins s σ H _ I h) fun v s1 ⟨x, H1, I1, r1, ty, q1⟩ => ?_)
 obtain ⟨h1, h2⟩ := Nj I1 r1 ty
 refine ⟨T, id, pa, slot, Nk, h1, h2, ?_⟩
 have hA := ha cJ pins s1 σ H1 _ I1 q1
 rw [hs] at hA ⊢
 refine Calls.callWith_builtin (by show (false || (backTo cJ (starEach es X.env)).any (·.1)) = false; rw [Np] <;> rfl) (Calls.evalArgs_plain ?_)
 exact aB hA fun us s2 ⟨vs, H2, I2, r2, q2⟩ => hm pins s2 σ H2 x vs v us Q I2 r1 r2 q2
end
end L2
namespace L2
open PySem PySem.Spec PyProof.Rows
noncomputable def Nq (X : Cx) (id : String) (r : V -> List V -> Hp -> VK -> Prop) : Prop :=
 ∀ (pins : List (Addr × Obj)) (s : Shared) (σ : St) (H : Hp) (x : V) (xs : List V) (v : Value) (us : List Value) (Q : VK), Inv X pins σ H s -> RelV x v -> Vals xs us -> r x xs H Q ->
  wpAny (model X.prog X.w) X.A (call (.builtin id) (v :: us)) (EP X pins σ Q) X.xe s
theorem Vals.one : ∀ {x : V} {us : List Value}, Vals [x] us -> ∃ u, us = [u] /\ RelV x u
 | _, _, .cons r .nil => ⟨_, rfl, r⟩
theorem Vals.zero : ∀ {us : List Value}, Vals [] us -> us = []
 | _, .nil => rfl
theorem Vals.reverse {xs : List V} {us : List Value} (h : Vals xs us) : Vals xs.reverse us.reverse := by
 induction h with
 | nil => exact .nil
 | cons r t ih => rw [List.reverse_cons, List.reverse_cons]; exact Vals.append ih (.cons r .nil)
section
variable {X : Cx} {pins : List (Addr × Obj)} {σ : St} {H : Hp} {s : Shared} {l b : Addr} {xs ys zs : List V}
theorem Inv.Nr {ag its' : List Value} {n : Nat} {f : Array Value -> Array Value} {t' : Nat} (I : Inv X pins σ H s) (hH : H l = some (.lst xs))
 (e : s.heap.get? l = some { cls := .type "list", data := .seq ag.toArray n }) (hf : f ag.toArray = its'.toArray) (hv : Vals ys its') (hz : ys.length <= sizeLine) :
 Inv X pins σ (upd H l (.lst ys)) { s with heap := s.heap.update l (Obj.mapSeq f), toks := t' } := by
 have q := PySem.IsL.update e f
 rw [hf] at q
 refine I.write (x := l) (e := l) (by rw [hH]; exact trivial) (.inl rfl) (fun b' u hb hu => (Heap.get?_update_other s.heap (Obj.mapSeq f) (Ne.symm hb)).trans hu) ⟨_, q⟩ ?_
 exact ⟨hz, its', _, hv, q⟩
theorem Inv.Nt {ag : List Value} {t' : Nat} (I : Inv X pins σ H s) (hv : Vals ys ag) (hz : ys.length <= sizeLine) :
 Inv X pins σ (upd H s.heap.objs.size (.lst ys)) { s with heap := s.heap.push { cls := .type "list", data := .seq ag.toArray }, toks := t' } :=
 I.laid (fun _ _ q => Heap.get?_push_of_some _ q) (Nat.le_refl _) ⟨hz, ag, 0, hv, Heap.get?_push_size _ rfl⟩
theorem Inv.fresh (I : Inv X pins σ H s) : H s.heap.objs.size = none := I.ar.fresh (Nat.le_refl _)
theorem Inv.yY (I : Inv X pins σ H s) (hH : H l = some (.lst xs)) : xs.length <= sizeLine /\ ∃ (ag : List Value) (n : Nat), Vals xs ag /\ xs.length = ag.length /\ s.heap.get? l = some { cls := .type "list", data := .seq ag.toArray n } := by
 obtain ⟨z, ag, n, r, e⟩ := I.ar l _ hH
 exact ⟨z, ag, n, r, r.length, e⟩
end
section
variable {X : Cx}
noncomputable def qb : V -> List V -> Hp -> VK -> Prop := fun x vs H Q => ∃ l xs y, x = .ref l /\ vs = [y] /\ H l = some (.lst xs) /\ xs.length < sizeLine /\ Q .non (upd H l (.lst (xs ++ [y])))
theorem qc : Nq X "list.append" qb := by
 intro pins s σ H x vs v us Q I rx rv h
 obtain ⟨l, xs, y, rfl, rfl, hH, hz, q⟩ := h
 cases rx
 obtain ⟨u, rfl, ru⟩ := rv.one
 obtain ⟨z, ag, n, r, hl, e⟩ := I.yY hH
 refine call_meets F.slot_list_append ⟨_, e, rfl⟩ F.entry_list_append (F.args_list_append_2 _ _) (PySem.list_append l ag.toArray n u (by rw [List.size_toArray]; omega)) ⟨e, ?_⟩
 refine ⟨.non, _, I.Nr (its' := ag ++ [u]) hH e (by simp) (r.append (.cons ru .nil)) ?_, rfl, q⟩
 rw [List.length_append, List.length_singleton]
 omega
noncomputable def sG : V -> List V -> Hp -> VK -> Prop := fun x vs H Q => ∃ l b xs zs, x = .ref l /\ vs = [.ref b] /\ H l = some (.lst xs) /\ H b = some (.lst zs) /\ xs.length + zs.length <= sizeLine /\ Q .non (upd H l (.lst (xs ++ zs)))
noncomputable def qd : R2 := fun x y H Q => ∃ l b xs zs, x = .ref l /\ y = .ref b /\ H l = some (.lst xs) /\ H b = some (.lst zs) /\ xs.length + zs.length <= sizeLine /\ ∀ p, H p = none -> Q (.ref p) (upd H p (.lst (xs ++ zs)))
theorem lI : bI X (binaryOp .Add) qd := by
 intro pins s σ H x y v u Q I rx ry h
 obtain ⟨l, b, xs, zs, rfl, rfl, hH, hB, hz, q⟩ := h
 cases rx
 cases ry
 obtain ⟨z, ag, n, r, hl, e⟩ := I.yY hH
 obtain ⟨z2, yS, n2, r2, bV, e2⟩ := I.yY hB
 refine PySem.P.add_list e e2 ?_ (by rw [List.size_toArray, List.size_toArray]; omega)
 have ea : ag.toArray ++ yS.toArray = (ag ++ yS).toArray := by simp
 rw [ea]
 exact ⟨.ref _, _, I.Nt (t' := s.toks) (r.append r2) (by rw [List.length_append]; omega), rfl, q _ I.fresh⟩
end
section
variable {prog : Program} {w : World} {A : Around} {E : Value -> Shared -> Prop} {s : Shared}
set_option maxRecDepth 100000 in
end
section
variable {X : Cx}
end
end L2
namespace yZ
open PySem PySem.W PySem.Calls PyProof.Rows
theorem Nu {P : Params} {h : Heap} : ∀ (ns : List Int) (vs : List Value), WellAll P h vs (ns.map WData.int) -> IntsAre vs ns := by
 intro ns
 induction ns with
 | nil =>
  intro vs w
  rw [List.map_nil] at w
  cases w
  exact .nil
 | cons n ns ih =>
  intro vs w
  rw [List.map_cons] at w
  cases w with
  | cons a b =>
   cases a
   exact .cons _ _ (ih _ b)
theorem Nv {l : OpenLaw} {n : Nat} (hn : l.most = some n) {P : Params} {h : Heap} {args : List WData} {vals : List Value}
 (GD : l.row.toRowW.claim.pre args = true) (Nw : WellAll P h vals args) :
 ∃ a vs ns, vals = [Value.ref a] /\ args = [WData.list (ns.map WData.int)] /\ h.get? a = some { cls := .type "list", data := .seq vs.toArray } /\ IntsAre vs ns /\ ns.length <= n := by
 have Nx : WShape.hasAll [] args [.list .int] = true := (pre_splitW GD).1
 have hc : l.pre.holds [] { args := args } = true := (pre_splitW GD).2
 obtain ⟨d, r, rfl, h1, h2⟩ := hasAllW_cons Nx
 obtain rfl := hasAllW_nil h2
 obtain ⟨xs, rfl, h3⟩ := hasW_list h1
 obtain ⟨ns, rfl⟩ := items_int h3
 have hlen : ns.length <= n := by
  unfold OpenLaw.pre at hc
  have h4 : (WTm.not (.lt (.lit (.int (n : Int))) (.len (.arg 0)))).holds [] { args := [.list (ns.map .int)] } = true := by
   have h4 := (holds_andW hc).1
   rw [hn] at h4
   exact h4
  have h5 := condW_of h4 (w_not (w_lt w_lit (w_len_list (w_arg rfl))))
  rw [List.length_map] at h5
  refine Nat.le_of_not_lt fun q => ?_
  have q' : (n : Int) < ((ns.length : Nat) : Int) := by omega
  first
   | (rw [decide_eq_true q'] at h5; exact absurd h5 (by decide))
   | (simp at h5; omega)
 cases Nw with
 | cons w1 w2 =>
  cases w2
  cases w1 with
  | list ho hall => exact ⟨_, _, ns, rfl, rfl, ho, Nu ns _ hall, hlen⟩
theorem Ny (l : OpenLaw) (args : List WData) : l.row.toRowW.claim.post args (.bool true) args = true :=
 postW_of (r := l.row.toRowW) (X := (true == true))
  (show WShape.has [] (.bool true) .bool = true by first | rfl | decide | simp [WShape.has, WShape.arms, WShape.armsAll])
  (show (WTm.eq .res (.lit (.bool true))).value [] { args := args, res := some (.bool true), after := args } = some (.bool (true == true)) from w_eq_bool (w_res rfl) w_lit) rfl
section
variable {prog : Program} {w : World} {A : Around} {E : Value -> Shared -> Prop} {s : Shared} {K : Frag}
end
end yZ
namespace L2
open PySem PySem.Spec PyProof.Rows
theorem y3 : ∀ {vs : List Value} {ns : List Int}, IntsAre vs ns -> Vals (ns.map V.int) vs
 | _, _, .nil => .nil
 | _, _, .cons n t h => .cons ⟨t, rfl⟩ (y3 h)
noncomputable def GF (H : Hp) : Prop := ∀ b, H b = none ∨ ∃ o xs, H b = some (.bj o (.lst xs))
theorem Nz {P : Program} {w : World} {K : PySem.W.Frag} {mg mb : Str -> Option Value} {CX : cV} {k : Nat} {fa a : Addr} {fd : FuncData} {x : Str} {sp : Sp} {s₁ : Shared} {vs : List Value} {ns : List Int}
 (KX : K.In s₁.heap) (eQ : s₁.heap.Ns mainGlobals mg) (hb : s₁.heap.Ns builtinsNs mb) (NA : ∀ x : Str, x ≠ "__name__" -> mb x = bootBuiltins x) (NB : s₁.heap.NoLimit) (hg : s₁.gens = #[])
 (ha : s₁.heap.get? a = some { cls := .type "list", data := .seq vs.toArray }) (hi : IntsAre vs ns) (hl : ns.length <= sizeLine) (hr : bQ k callerA)
 (F : ∀ base : Heap, K.In base -> base.Ns mainGlobals mg -> aJ P w K mg base CX k fa fd [x] sp) (NC : ∀ (s : Shared) (u : Value), BindsTo s fd ⟨[u], []⟩ [(x, u)])
 (gW : ∀ H : Hp, GF H -> ah K H a (ns.map V.int) -> sp [.ref a] H (fun v _ => v = .bl true) fun _ _ _ => False)
 (ND : ∀ H e s', CX [] H s₁ (fun _ _ _ => False) e s' -> False) :
 codeAny (model P w) callerA (.call (.ref fa) ⟨[.ref a], []⟩) (fun r s' => r = .ok (.ret (.bool true)) /\ OldK s₁.heap s'.heap /\ s'.os = s₁.os /\ AllBare s'.gens) s₁ := by
 have rv := y3 hi
 have NF := hi.length
 have core : ∀ H : Hp, GF H -> ah K H a (ns.map V.int) -> bM P w H s₁.heap -> (∀ b, H b ≠ none -> b = a) -> (H a ≠ none -> K.lookup a = none) ->
  codeAny (model P w) callerA (.call (.ref fa) ⟨[.ref a], []⟩) (fun r s' => r = .ok (.ret (.bool true)) /\ OldK s₁.heap s'.heap /\ s'.os = s₁.os /\ AllBare s'.gens) s₁ := by
  intro H hO hS ar hA hK
  have GG : ∀ {b : Addr} {o : Obj}, s₁.heap.get? b = some o -> H b = none -> (gm s₁.heap H).get? b = some o := fun e n => Me e n
  have pO : ∀ {b : Addr} {o : Obj} {es : Array DictEntry} {ep : Nat}, s₁.heap.get? b = some o -> o.data = .dict es ep -> H b = none := fun {b o es ep} e d => by
   cases q : H b with
   | none => rfl
   | some u =>
    have e' : b = a := hA b (by rw [q]; simp)
    subst e'
    rw [ha] at e; cases e
    have d' : Data.seq vs.toArray _ = Data.dict es ep := d
    cases d'
  have sH : ∀ {b : Addr} {m : Str -> Option Value}, s₁.heap.Ns b m -> (gm s₁.heap H).Ns b m := fun {b m} ⟨o, es, ep, e, d, r⟩ => ⟨o, es, ep, GG e (pO e d), d, r⟩
  have GH : K.In (gm s₁.heap H) := fun b o e => GG (KX b o e) (by
   cases q : H b with
   | none => rfl
   | some u =>
    have e' : b = a := hA b (by rw [q]; simp)
    subst e'
    rw [hK (by rw [q]; simp)] at e; cases e)
  have hM : Mod K mg (gm s₁.heap H) := ⟨GH, sH eQ, ⟨mb, sH hb, NA⟩, let ⟨mc, h1, h2⟩ := NB; ⟨mc, sH h1, h2⟩⟩
  have e0 : j5 P w K mg (gm s₁.heap H) callerA [] s₁ H := ⟨rfl, hM, fun b o e => Mf e, Nat.le_of_eq (Md _ _), trivial, fun b hb => absurd (show b ∈ ([] : List Addr) from hb) (by simp), ar, .of_eq hg⟩
  refine codeAny_mono ((F _ GH (sH eQ)).run callerA [] s₁ H ⟨[.ref a], []⟩ [.ref a] [.ref a] _ _ hr e0 (NC s₁ (.ref a)) (.cons rfl .nil) (gW H hO hS)) fun r s' h => ?_
  cases r with
  | error e => exact (ND H e s' h).elim
  | ok fl =>
   cases fl with
   | next => exact False.elim h
   | brk => exact False.elim h
   | cont => exact False.elim h
   | ret u =>
    obtain ⟨v, H', os, bare, un, NG, r', q⟩ := h
    have q' : v = .bl true := q
    subst q'
    obtain rfl : u = Value.bool true := r'
    refine ⟨rfl, OldK.of_keep fun b o e => ?_, os, bare⟩
    cases q : H b with
    | none => exact un.keep b o e q (by intro z; exact absurd (show b ∈ ([] : List Addr) from z) (by simp)) (by simp)
    | some u =>
     rcases hO b with z | ⟨ob, xs, z⟩
     ·rw [q] at z; cases z
     ·have z2 := un.cc b ob _ z
      obtain ⟨e1, _⟩ := ar b _ z
      obtain ⟨e2, _⟩ := NG b _ z2
      rw [e] at e1; cases e1
      exact e2
 cases hk : K.lookup a with
 | some o =>
  have e := KX a o hk
  rw [ha] at e
  cases e
  refine core (fun _ => none) (fun _ => .inl rfl) (.inr ⟨_, vs.toArray, _, hk, rfl, rfl, rfl, by rw [List.size_toArray, NF]; exact hl, by simpa using rv⟩) (fun b u z => by have z' : (none : Option HO) = some u := z; cases z') (fun b z => absurd rfl z) fun z => absurd rfl z
 | none =>
  refine core (fun b => if b = a then some (.bj { cls := .type "list", data := .seq vs.toArray } (.lst (ns.map V.int))) else none) (fun b => ?_) (.inl (.inr ⟨{ cls := .type "list", data := .seq vs.toArray }, if_pos rfl⟩)) (fun b u z => ?_) (fun b z => ?_) fun _ => hk
  ·by_cases hb : b = a
   ·exact .inr ⟨_, _, if_pos hb⟩
   ·exact .inl (if_neg hb)
  ·by_cases hb : b = a
   ·have z' := (if_pos hb).symm.trans z
    cases z'
    subst hb
    exact ⟨ha, by rw [List.length_map]; exact hl, vs, _, rv, ha⟩
   ·have z' := (if_neg hb).symm.trans z
    cases z'
  ·by_cases hb : b = a
   ·exact hb
   ·exact absurd (if_neg hb) z
end L2
namespace L2
open PySem PySem.Spec PyProof.Rows
end L2
namespace L2
open PySem PySem.Spec PyProof.Rows
noncomputable def inClass (s : Stmt) (j : Nat) : Stmt := match s with
 | .ClassDef _ _ _ body _ _ _ _ _ _ _ => body.getD j (.Pass ⟨0, 0, 0, 0⟩)
 | _ => .Pass ⟨0, 0, 0, 0⟩
noncomputable def aP (s : Stmt) : Arguments := match s with
 | .FunctionDef _ a _ _ _ _ _ _ _ _ => a
 | _ => { posonlyargs := [], args := [], vararg := none, kwonlyargs := [], kw_defaults := [], kwarg := none, defaults := [] }
noncomputable def aM (s : Stmt) : List Stmt := match s with
 | .FunctionDef _ _ b _ _ _ _ _ _ _ => b
 | _ => []
noncomputable def ax (s : Stmt) : Scope := match s with
 | .FunctionDef _ _ _ _ _ _ sc _ _ _ => sc
 | _ => { kind := .function, names := [], isGenerator := false, isCoroutine := false }
noncomputable abbrev E0 : XK := fun _ _ _ => False
structure aQ (K : PySem.W.Frag) (x qual : Str) (st : Stmt) (f : Addr) (fd : FuncData) : Prop where
 ex : ∃ (oc : Value) (od : Option Addr) (kV doc pm : Value) (an : Option Addr) (aI ct : Value) (gy : Array (Option Value)),
  fd = PySem.W.fnOf x qual (aP st) (aM st) (ax st) .none kV doc pm an aI ct /\ K.lookup f = some ⟨oc, od, .func fd, gy⟩ /\ PySem.W.codeIn K aI qual = true
 kp : PySem.W.keepIn K (.ref f) = true
section
variable {P : Program} {w : World} {K : PySem.W.Frag} {mg : Str -> Option Value} {base : Heap}
theorem aQ.binds {x qual : Str} {st : Stmt} {f : Addr} {fd : FuncData} {ps : List Str} (F : aQ K x qual st f fd)
 (h : ∀ (kV doc pm : Value) (an : Option Addr) (aI ct : Value) (us : List Value), us.length = ps.length -> bindArgs (PySem.W.fnOf x qual (aP st) (aM st) (ax st) .none kV doc pm an aI ct) ⟨us, []⟩ = pure (ps.zip us)) : Binds K fd ps [] := by
 obtain ⟨oc, od, kV, doc, pm, an, aI, ct, gy, rfl, lk, eH⟩ := F.ex
 exact .all (h kV doc pm an aI ct)
theorem aV {x qual : Str} {st : Stmt} {f : Addr} {oc : Value} {od an : Option Addr} {gy : Array (Option Value)} {kV doc pm aI ct : Value} (l : K.lookup f = some ⟨oc, od, .func (PySem.W.fnOf x qual (aP st) (aM st) (ax st) .none kV doc pm an aI ct), gy⟩)
 (c : PySem.W.codeIn K aI qual = true) (k : PySem.W.keepIn K (.ref f) = true) : aQ K x qual st f (PySem.W.fnOf x qual (aP st) (aM st) (ax st) .none kV doc pm an aI ct) := ⟨⟨oc, od, kV, doc, pm, an, aI, ct, gy, rfl, l, c⟩, k⟩
end
theorem lJ {A : Around} {k : Nat} (hr : bQ k A) : A.units + 1 < cLine := Nat.lt_of_le_of_lt (Nat.add_le_add_left (by decide : 1 <= 64) _) hr.units
section
variable {X : Cx}
theorem pv (i : Nat) {x : Str} {pos : Pos} (hN : X.N[i]? = some x := by rfl) (hv : yu X.env.scope x := by first | exact Or.inl rfl | exact Or.inr (Or.inl rfl) | exact Or.inr (Or.inr rfl)) (hd : (x == ("__debug__" : Str)) = false := by decide)
 (eH : (x == ("__classdict__" : Str)) = false := by decide) : PE X (.Name x pos) (k8 i) := Mi hN hv hd eH
end
noncomputable def aw (H H' : Hp) : Prop := ∀ b o, H b = some o -> H' b = some o
theorem aw.refl (H : Hp) : aw H H := fun _ _ h => h
theorem aw.trans {H H1 H2 : Hp} (a : aw H H1) (b : aw H1 H2) : aw H H2 := fun c o h => b c o (a c o h)
theorem aw.free {H H' : Hp} (e : aw H H') {l : Addr} (h : H' l = Option.none) : H l = Option.none := by
 cases q : H l with
 | none => rfl
 | some o =>
  rw [e l o q] at h
  cases h
theorem aw.seq {K : PySem.W.Frag} {H H' : Hp} {a : Addr} {xs : List V} (e : aw H H') (h : ah K H a xs) : ah K H' a xs := by
 rcases h with (h | ⟨o, h⟩) | h
 ·exact .inl (.inl (e _ _ h))
 ·exact .inl (.inr ⟨o, e _ _ h⟩)
 ·exact .inr h
end L2
namespace L2
open PySem PySem.Spec PyProof.Rows
section
variable {κ : Type} [DecidableEq κ]
noncomputable def qe (kvs : List (κ × V)) (k : κ) : Option V := (kvs.find? fun kv => decide (kv.1 = k)).map (·.2)
noncomputable def putK (kvs : List (κ × V)) (k : κ) (v : V) : List (κ × V) :=
 if (kvs.any fun kv => decide (kv.1 = k)) = true then kvs.map (fun kv => if kv.1 = k then (kv.1, v) else kv) else kvs ++ [(k, v)]
noncomputable def sI (kvs : List (κ × V)) (k : κ) : List (κ × V) := kvs.filter fun kv => decide (kv.1 ≠ k)
theorem eF.getD {o : Option V} {u : Option Value} {d : V} {d' : Value} (r : eF o u) (rd : RelV d d') : RelV (o.getD d) (u.getD d') := by
 cases o with
 | none => cases u with
  | none => exact rd
  | some _ => exact (show False from r).elim
 | some _ => cases u with
  | none => exact (show False from r).elim
  | some _ => exact r
theorem KV.any {kvs : List (κ × V)} {vs : List (κ × Value)} (r : KV kvs vs) (k : κ) : (kvs.any fun kv => decide (kv.1 = k)) = vs.any fun kv => decide (kv.1 = k) := by
 unfold KV at r
 induction r with
 | nil => rfl
 | cons h t ih => rw [List.any_cons, List.any_cons, ih, h.1]
theorem KV.drop {kvs : List (κ × V)} {vs : List (κ × Value)} (r : KV kvs vs) (k : κ) : KV (sI kvs k) (without vs k) := by
 unfold KV at r ⊢
 unfold sI without
 induction r with
 | nil => exact .nil
 | @cons p q ps qs h t ih =>
  obtain ⟨h1, h2⟩ := h
  rw [List.filter_cons, List.filter_cons]
  by_cases e : p.1 = k
  ·have a : ¬ decide (p.1 ≠ k) = true := by simp [e]
   have b : ¬ decide (q.1 ≠ k) = true := by simp [h1.symm.trans e]
   rw [if_neg a, if_neg b]; exact ih
  ·have e' : ¬ q.1 = k := fun z => e (h1.trans z)
   have a : decide (p.1 ≠ k) = true := by simp [e]
   have b : decide (q.1 ≠ k) = true := by simp [e']
   rw [if_pos a, if_pos b]; exact .cons ⟨h1, h2⟩ ih
theorem KV.length {kvs : List (κ × V)} {vs : List (κ × Value)} (r : KV kvs vs) : kvs.length = vs.length := Paired.length r
end
noncomputable abbrev KT (H : Hp) : List (List Key × V) -> List (List Key × Addr × Value) -> Prop := Paired fun p q => p.1 = q.1 /\ H q.2.1 = some (.tup (p.1.map kV)) /\ RelV p.2 q.2.2
section
variable {P : Program} {w : World} {H : Hp} {h : Heap} {a : Addr}
end
noncomputable def fR (H : Hp) (a : Addr) (y : V) (r : Option V) : Prop :=
 (∃ kvs k, Rd H a (.dK kvs) /\ y = kV k /\ r = qe kvs k) ∨ ∃ kvs k b, Rd H a (.dT kvs) /\ y = .ref b /\ H b = some (.tup (k.map kV)) /\ r = qe kvs k
noncomputable def qf (H : Hp) (a : Addr) (y v : V) (H' : Hp) : Prop :=
 (∃ kvs k, H a = some (.dK kvs) /\ y = kV k /\ kvs.length < sizeLine /\ H' = upd H a (.dK (putK kvs k v))) ∨
 ∃ kvs k b, H a = some (.dT kvs) /\ y = .ref b /\ H b = some (.tup (k.map kV)) /\ kvs.length < sizeLine /\ H' = upd H a (.dT (putK kvs k v))
theorem fR.k {H : Hp} {a : Addr} {kvs : List (Key × V)} {k : Key} (e : H a = some (.dK kvs)) : fR H a (kV k) (qe kvs k) := .inl ⟨kvs, k, .inl e, rfl, rfl⟩
theorem fR.t {H : Hp} {a b : Addr} {kvs : List (List Key × V)} {k : List Key} (e : H a = some (.dT kvs)) (eb : H b = some (.tup (k.map kV))) : fR H a (.ref b) (qe kvs k) := .inr ⟨kvs, k, b, .inl e, rfl, eb, rfl⟩
theorem qf.k {H : Hp} {a : Addr} {kvs : List (Key × V)} {k : Key} {v : V} (e : H a = some (.dK kvs)) (hl : kvs.length < sizeLine) : qf H a (kV k) v (upd H a (.dK (putK kvs k v))) := .inl ⟨kvs, k, e, rfl, hl, rfl⟩
theorem qf.t {H : Hp} {a b : Addr} {kvs : List (List Key × V)} {k : List Key} {v : V} (e : H a = some (.dT kvs)) (eb : H b = some (.tup (k.map kV))) (hl : kvs.length < sizeLine) :
 qf H a (.ref b) v (upd H a (.dT (putK kvs k v))) := .inr ⟨kvs, k, b, e, rfl, eb, hl, rfl⟩
section
variable {X : Cx} {pins : List (Addr × Obj)} {σ : St} {H : Hp} {s : Shared} {a : Addr} {y v : V} {u r : Value} {o : Option V} {A : Around} {E : Value -> Shared -> Prop}
end
section
variable {X : Cx} {pins : List (Addr × Obj)} {σ : St} {H : Hp} {s : Shared} {a : Addr} {kvs : List (Key × V)} {k : Key} {u : Value} {A : Around} {E : Value -> Shared -> Prop}
end
noncomputable def sJ (td ty : TE) : TE := fun σ H Q => td σ H fun x H1 => ty σ H1 fun y H2 => ∃ a v, x = .ref a /\ fR H2 a y (some v) /\ Q v H2
noncomputable def sL (ty td : TE) : TE := fun σ H Q => ty σ H fun y H1 => td σ H1 fun x H2 => ∃ a o, x = .ref a /\ fR H2 a y o /\ Q (.bl o.isSome) H2
noncomputable def sM (ty td : TE) : TE := fun σ H Q => ty σ H fun y H1 => td σ H1 fun x H2 => ∃ a o, x = .ref a /\ fR H2 a y o /\ Q (.bl (!o.isSome)) H2
noncomputable def sN (td ty tv : TE) : TS := fun D σ H => tv σ H fun v H1 => td σ H1 fun x H2 => ty σ H2 fun y H3 => ∃ a H4, x = .ref a /\ qf H3 a y v H4 /\ D.nx σ H4
section
variable {X : Cx} {o i e value : Expr} {pos pos' MN : Pos} {td ty tv : TE}
end
section
variable {X : Cx} {pos : Pos}
end
structure M1 (X : Cx) (o : Expr) (m : Str) (apos : Pos) (e : Expr) (cJ : Pos) : Prop where
 base : attributeBase o m X.env (eval o X.env) = eval o X.env
 few : ((backTo cJ (starEach [e] X.env)).all (fun x => !x.1) && (backToKw cJ (keywordEach [] X.env)).all (fun x => x.1.isSome)
  && decide (([e] : List Expr).length + ([] : List Keyword).length + (if ([] : List Keyword).isEmpty then 0 else 1) < 30)) = true
 line : (apos.endLine == cJ.line) = true
 trees : backTo cJ (starEach [e] X.env) = [(false, eval e X.env)]
noncomputable def NH (H : Hp) (a : Addr) : Prop := (∃ kvs, Rd H a (.dK kvs)) ∨ ∃ kvs, Rd H a (.dT kvs)
section
variable {X : Cx} {pins : List (Addr × Obj)} {σ : St} {H : Hp} {s : Shared} {a : Addr} {y d : V} {u r : Value} {o : Option V} {A : Around} {E : Value -> Shared -> Prop}
end
noncomputable def sO (td ty : TE) : TE := fun σ H Q => td σ H fun x H1 => ∃ a, x = .ref a /\ NH H1 a /\ ty σ H1 fun y H2 => ∃ o, fR H2 a y o /\ Q (o.getD .non) H2
section
variable {X : Cx} {o e f : Expr} {apos cJ : Pos} {td ty tx : TE}
end
section
variable {X : Cx} {pins : List (Addr × Obj)} {σ : St} {H : Hp} {s : Shared} {a : Addr} {kvs : List (Key × V)} {A : Around} {E : Value -> Shared -> Prop}
end
section
variable {X : Cx} {pins : List (Addr × Obj)} {σ : St} {H : Hp} {s : Shared} {a : Addr} {y : V} {u : Value} {A : Around} {E : Value -> Shared -> Prop}
end
end L2
namespace L2
open PySem PySem.Spec PyProof.Rows
section
variable {κ : Type} [DecidableEq κ]
end
end L2
namespace Gz
open PySem PySem.Spec PyProof.Rows L2
noncomputable def Bd (n : Nat) (x : Int) : Prop := x.natAbs < 2 ^ n
theorem Bd.of {n : Nat} {x : Int} (h1 : -((2 ^ n : Nat) : Int) < x) (h2 : x < ((2 ^ n : Nat) : Int)) : Bd n x := by
 unfold Bd; omega
theorem Bd.up {n m : Nat} {x : Int} (h : Bd n x) (hm : n <= m) : Bd m x := Nat.lt_of_lt_of_le h (Nat.pow_le_pow_right (by decide) hm)
theorem Bd.bits {n : Nat} {x : Int} (h : Bd n x) : Builtin.Int.intBits x <= n := by
 unfold Builtin.Int.intBits
 by_cases e : x = 0
 ·subst e; simp
 ·have e0 : ¬ ((x == 0) = true) := by simpa using e
  rw [if_neg e0]
  have hn : x.natAbs ≠ 0 := by omega
  have := (Nat.log2_lt hn).mpr h
  omega
noncomputable def qg (i j : Int) : Prop := Bd 4000 i /\ Bd 4000 j
theorem qg.ok {i j : Int} (h : qg i j) : IntMulOk i j :=
 IntMulOk.of_bits (Nat.le_trans h.1.bits (by decide)) (Nat.le_trans h.2.bits (by decide))
section
variable {X : Cx}
theorem g7 : bI X (binaryOp .Mult) (rI qg fun i j => .int (i * j)) := su fun _ _ _ _ _ _ _ hc q => mul_int q hc.ok
noncomputable def fS : V -> Value
 | .ref a => .ref a
 | .ty n => .type n
 | _ => .none
theorem NI : ed X (.builtin "isinstance") (fun xs H Q => ∃ x c t b, xs = [x, c] /\ cg X.K H x t /\ fS c ≠ .none /\ PySem.W.kitOne X.K t (fS c) = some b /\ Q (.bl b) H) := by
 intro pins s σ H xs us Q I r h
 obtain ⟨x, c, t, b, rfl, ty, hc, e, q⟩ := h
 obtain ⟨u, v, rfl, rx, rc⟩ := vals2 r
 have ev : v = fS c := by
  cases c with
  | ref a => exact rc
  | ty n => exact rc
  | non => exact absurd rfl hc
  | bl _ => exact absurd rfl hc
  | int _ => exact absurd rfl hc
  | str _ => exact absurd rfl hc
  | byt _ => exact absurd rfl hc
  | flt _ => exact absurd rfl hc
 subst ev
 exact MO I rx ty e fun tk => ⟨.bl b, H, I.tok tk, rfl, q⟩
end
theorem sP {K : PySem.W.Frag} {t : Value} : PySem.W.kitOne K t t = some true := by
 unfold PySem.W.kitOne
 rw [if_pos (by simp)]
theorem sQ {K : PySem.W.Frag} {a c : String} {b : Bool} (h : PySem.W.kitMeta c = true) (h2 : (PySem.fastBuiltinMro a).map (·.contains (.type c)) = some b) (h3 : (a == c) = false) : PySem.W.kitOne K (.type a) (.type c) = some b := by
 unfold PySem.W.kitOne
 have e : ¬ ((Value.type a == Value.type c) = true) := by
  simp only [beq_iff_eq, Value.type.injEq]
  simpa using h3
 rw [if_neg e]
 show (if PySem.W.kitMeta c = true then PySem.W.subIn K (.type a) (.type c) else none) = some b
 rw [if_pos h]
 exact h2
theorem NJ {K : PySem.W.Frag} : PySem.W.kitOne K (.type "int") (.type "bool") = some false := sQ (by decide +kernel) (by decide +kernel) (by decide)
theorem NK {K : PySem.W.Frag} : PySem.W.kitOne K (.type "bool") (.type "int") = some true := sQ (by decide +kernel) (by decide +kernel) (by decide)
theorem NL {K : PySem.W.Frag} : PySem.W.kitOne K (.type "NoneType") (.type "int") = some false := sQ (by decide +kernel) (by decide +kernel) (by decide)
theorem NM {K : PySem.W.Frag} : PySem.W.kitOne K (.type "NoneType") (.type "tuple") = some false := sQ (by decide +kernel) (by decide +kernel) (by decide)
theorem cE : bootBuiltins "len" = some (.builtin "len") := by decide +kernel
theorem lK : bootBuiltins "min" = some (.builtin "min") := by decide +kernel
theorem GI : bootBuiltins "max" = some (.builtin "max") := by decide +kernel
theorem cq : bootBuiltins "isinstance" = some (.builtin "isinstance") := by decide +kernel
theorem GJ : bootBuiltins "sorted" = some (.builtin "sorted") := by decide +kernel
theorem NN : bootBuiltins "int" = some (.type "int") := by decide +kernel
theorem NO : bootBuiltins "bool" = some (.type "bool") := by decide +kernel
theorem y4 : bootBuiltins "list" = some (.type "list") := by decide +kernel
theorem y6 : bootBuiltins "tuple" = some (.type "tuple") := by decide +kernel
theorem GK : bootBuiltins "enumerate" = some (.type "enumerate") := by decide +kernel
theorem NP : bootBuiltins "zip" = some (.type "zip") := by decide +kernel
theorem NQ : bootBuiltins "reversed" = some (.type "reversed") := by decide +kernel
noncomputable def y7 : V -> V -> Option Bool
 | .int _, .ty n => if n = "int" then some true else if n = "bool" then some false else none
 | .bl _, .ty n => if n = "int" then some true else if n = "bool" then some true else none
 | .non, .ty n => if n = "int" then some false else if n = "tuple" then some false else none
 | _, _ => none
noncomputable def fq (K : PySem.W.Frag) (x c : V) (H : Hp) (Q : VK) : Prop := match y7 x c with
 | some b => Q (.bl b) H
 | none => ∃ t b, cg K H x t /\ fS c ≠ .none /\ PySem.W.kitOne K t (fS c) = some b /\ Q (.bl b) H
section
variable {X : Cx}
theorem lL : ed X (.builtin "isinstance") (fun xs H Q => ∃ x c, xs = [x, c] /\ fq X.K x c H Q) := by
 intro pins s σ H xs us Q I r h
 obtain ⟨x, c, rfl, h⟩ := h
 refine NI pins s σ H _ us Q I r ?_
 cases e : y7 x c with
 | none =>
  unfold fq at h
  rw [e] at h
  obtain ⟨t, b, h1, h2, h3, h4⟩ := h
  exact ⟨x, c, t, b, rfl, h1, h2, h3, h4⟩
 | some b =>
  unfold fq at h
  rw [e] at h
  unfold y7 at e
  split at e
  ·rename_i i n
   split at e
   ·rename_i z; subst z; cases e
    exact ⟨_, _, _, _, rfl, cg.int i, (fun z => nomatch z), sP, h⟩
   ·split at e
    ·rename_i z; subst z; cases e
     exact ⟨_, _, _, _, rfl, cg.int i, (fun z => nomatch z), NJ, h⟩
    ·cases e
  ·rename_i i n
   split at e
   ·rename_i z; subst z; cases e
    exact ⟨_, _, _, _, rfl, cg.bl i, (fun z => nomatch z), NK, h⟩
   ·split at e
    ·rename_i z; subst z; cases e
     exact ⟨_, _, _, _, rfl, cg.bl i, (fun z => nomatch z), sP, h⟩
    ·cases e
  ·rename_i n
   split at e
   ·rename_i z; subst z; cases e
    exact ⟨_, _, _, _, rfl, cg.non, (fun z => nomatch z), NL, h⟩
   ·split at e
    ·rename_i z; subst z; cases e
     exact ⟨_, _, _, _, rfl, cg.non, (fun z => nomatch z), NM, h⟩
    ·cases e
  ·cases e
end
section
variable {K : PySem.W.Frag} {H : Hp} {Q : VK} {i : Int} {b : Bool} {p : Addr} {xs : List V}
theorem sR : fq K (.int i) (.ty "int") H Q = Q (.bl true) H := rfl
theorem sS : fq K (.int i) (.ty "bool") H Q = Q (.bl false) H := rfl
theorem sT : fq K (.bl b) (.ty "int") H Q = Q (.bl true) H := rfl
theorem sU : fq K (.bl b) (.ty "bool") H Q = Q (.bl true) H := rfl
theorem sV : fq K .non (.ty "int") H Q = Q (.bl false) H := rfl
theorem sW : fq K .non (.ty "tuple") H Q = Q (.bl false) H := rfl
theorem qh (h : H p = some (.tup xs)) (q : Q (.bl true) H) : fq K (.ref p) (.ty "tuple") H Q := ⟨_, _, cg.tup h, (fun z => nomatch z), sP, q⟩
theorem NR (h : H p = some (.lst xs)) (q : Q (.bl true) H) : fq K (.ref p) (.ty "list") H Q := ⟨_, _, cg.lst h, (fun z => nomatch z), sP, q⟩
end
theorem NS : bootBuiltins "ValueError" = some (.type "ValueError") := by decide +kernel
end Gz
namespace Gz
open PySem PySem.Spec PyProof.Rows L2
noncomputable def aK (P : Program) (w : World) : cV := fun outer H s E e s' =>
 ∃ (x : Addr) (cls a0 : Value) (H' : Hp) (B : Heap), e = .ref x /\ s'.os = s.os /\ AllBare s'.gens /\ Un (aT outer) [] H H' s.heap s'.heap /\
  (∀ b o, s.heap.get? b = some o -> H b = none -> b ∉ aT outer -> B.get? b = some o) /\ (∀ b o, s.heap.get? b = some o -> b ∉ aT outer -> ∃ o', B.get? b = some o') /\ bM P w H' B /\ H' x = none /\ s.heap.get? x = none /\
  Heap.FlyingW B outer x cls a0 s'.heap /\ E cls none H'
theorem aC {P : Program} {w : World} {X : Cx} : Passes (aK P w) X E0 := fun _ _ _ _ _ _ _ ⟨_, _, _, _, _, _, _, _, _, _, _, _, _, _, _, h⟩ => h.elim
theorem NT {P : Program} {w : World} {outer : List Env} {H : Hp} {s s' : Shared} {e : Value} (h : aK P w outer H s (fun _ _ _ => False) e s') : False := by
 obtain ⟨_, _, _, _, _, _, _, _, _, _, _, _, _, _, _, h⟩ := h
 exact h
section
variable {P : Program} {w : World} {K : PySem.W.Frag} {mg : Str -> Option Value} {base : Heap}
theorem okN {x qual : Str} {st : Stmt} {f : Addr} {fd : FuncData} {N ps : List Str} {k : Nat} {sp : Sp} (F : aQ K x qual st f fd) (S : aS N ps (ax st)) (len : ∀ vs H Q E, sp vs H Q E -> vs.length = ps.length)
 (pP : ∀ (aI : Value) (A : Around) (outer : List Env) (s : Shared) (H : Hp) (vs : List V) (Q : VK) (E : XK), bQ k (A.deeper (envOfC qual (ax st) s.heap.objs.size f aI)) -> sp vs H Q E ->
   ∃ t, bg (ee (aK P w) P w K mg base N qual (ax st) f aI A outer s H E).sm (aM st) t /\ t { nx := fun _ H' => Q .non H', rt := Q } (start N vs) H) : aJ P w K mg base (aK P w) (k + 1) f fd ps sp := by
 obtain ⟨oc, od, kV, doc, pm, an, aI, ct, gy, rfl, lk, eH⟩ := F.ex
 refine Gf lk eH S len fun A outer s H vs Q E hr gW => ?_
 obtain ⟨t, h, q⟩ := pP aI A outer s H vs Q E hr gW
 exact ⟨t, h.sm, q⟩
end
theorem sX (a b : Int) : jY (.int a) (.int b) = true := rfl
theorem sY (a b : Bool) : jY (.bl a) (.bl b) = true := rfl
theorem sZ (a : Int) : jY (.int a) .non = true := rfl
theorem tf (a : Int) : jY .non (.int a) = true := rfl
theorem tj : jY .non .non = true := rfl
theorem ite_tt {A B : Prop} : (if true = true then A else B) = A := if_pos rfl
theorem ite_ff {A B : Prop} : (if false = true then A else B) = B := if_neg Bool.false_ne_true
end Gz
namespace Gz
open PySem PySem.Spec PyProof.Rows L2
theorem tm {CX : cV} {P : Program} {w : World} {K : PySem.W.Frag} {mg : Str -> Option Value} {base : Heap} {N : List Str} {qual : Str} {scope : Scope} {f : Addr} {cd : Value} {A : Around} {outer : List Env} {s : Shared} {H : Hp} {E : XK} :
 (ee CX P w K mg base N qual scope f cd A outer s H E).K = K := rfl
theorem tq {CX : cV} {P : Program} {w : World} {K : PySem.W.Frag} {mg : Str -> Option Value} {base : Heap} {N : List Str} {qual : Str} {scope : Scope} {f : Addr} {cd : Value} {A : Around} {outer : List Env} {s : Shared} {H : Hp} {E : XK} :
 (ee CX P w K mg base N qual scope f cd A outer s H E).N = N := rfl
section
variable {K : PySem.W.Frag} {H H' : Hp} {a p : Addr} {xs ys : List V} {i : Int} {v : V} {Q : VK}
theorem au {o : HO} (h : H p = none) : aw H (upd H p o) := fun b u e => by rw [aH (fb e h)]; exact e
theorem aF (h : ai K H p xs) (e : b8 xs i = some v) (q : Q v H) : sF K (.ref p) (.int i) H Q := .inr (.inl ⟨p, xs, i, v, rfl, rfl, h, e, q⟩)
theorem aL (h : ah K H p xs) (e : b8 xs i = some v) (q : Q v H) : sF K (.ref p) (.int i) H Q := .inl ⟨p, xs, i, v, rfl, rfl, h, e, q⟩
theorem dg (h : ah K H p xs) : yK K (.ref p) H xs.length := .inl ⟨xs, h, rfl⟩
theorem gB (h : ai K H p xs) : yK K (.ref p) H xs.length := .inr ⟨xs, h, rfl⟩
end
noncomputable def isWhole : V -> Bool
 | .int _ => true
 | _ => false
end Gz
namespace Gz
open PySem PySem.Spec PyProof.Rows L2
noncomputable def FJ (J : It) (g : TG) (tb : TS) (D : Ends) (σ : L2.St) (H : Hp) : Prop := ∃ W : Nat -> Nat -> L2.St -> Hp -> Prop, (∃ m, W 0 m σ H) /\ ∀ i m σ H, W i m σ H ->
 (J.stop i H /\ D.nx σ H) ∨ (J.go i H /\ ∃ N : L2.St -> Hp -> Prop, (∀ σ' H', N σ' H' -> ∃ m', m' < m /\ W (i + 1) m' σ' H') /\ ∀ x H', J.yld i H x H' -> g x σ H' fun σ2 H2 => tb { D with nx := N, ct := N, bk := D.nx } σ2 H2)
section
variable {K : PySem.W.Frag} {g : TG} {tb : TS} {D : Ends} {σ : L2.St} {H : Hp} {a : Addr} {xs : List V} {lo : Int} {n : Nat}
theorem tu {ta : TA} : fO (lq ta) g tb D σ H = ta σ H (fun vs H1 => ∃ j : Int, vs = [.int j] /\ -(2 ^ 62) <= j /\ j < 2 ^ 62 /\ FJ (fg 0 j.toNat) g tb D σ H1) := rfl
theorem tD {tl : TE} : fO (lj K tl) g tb D σ H = tl σ H (fun x H1 => ∃ a, x = .ref a /\ (∃ xs, ah K H1 a xs) /\ FJ (fN K a) g tb D σ H1) := rfl
theorem tE {tl : TE} : fO (lp K tl) g tb D σ H = tl σ H (fun x H1 => ∃ a, x = .ref a /\ (∃ xs, ai K H1 a xs) /\ FJ (pq K a) g tb D σ H1) := rfl
theorem qi (Pv : Nat -> L2.St -> Hp -> Prop) (h0 : Pv 0 σ H)
 (hs : ∀ i σ H, i < n -> Pv i σ H -> g (.int (lo + i)) σ H fun σ2 H2 => tb { D with nx := Pv (i + 1), ct := Pv (i + 1), bk := D.nx } σ2 H2) (hd : ∀ σ H, Pv n σ H -> D.nx σ H) : FJ (fg lo n) g tb D σ H := Mw Pv h0 hs hd
theorem g8 (Pv : Nat -> L2.St -> Hp -> Prop) (h0 : Pv 0 σ H) (hl : ∀ i σ H, i <= xs.length -> Pv i σ H -> ah K H a xs)
 (hs : ∀ i x σ H, xs[i]? = some x -> Pv i σ H -> g x σ H fun σ2 H2 => tb { D with nx := Pv (i + 1), ct := Pv (i + 1), bk := D.nx } σ2 H2) (hd : ∀ σ H, Pv xs.length σ H -> D.nx σ H) : FJ (fN K a) g tb D σ H := Mv Pv h0 hl hs hd
end
theorem bo : (2 : Nat) <= sizeLine := by decide
theorem tF {x : Int} (h : x.natAbs < 2 ^ 200) : Bd 4000 x := Bd.up (n := 200) h (by decide)
theorem GL {x y : Int} (h : x.natAbs < 2 ^ 200) (h' : y.natAbs < 2 ^ 200) : qg x y := ⟨tF h, tF h'⟩
end Gz
namespace Gz
open PySem PySem.Spec PyProof.Rows L2
section
variable {X : Cx}
end
section
variable {K : PySem.W.Frag} {H H1 : Hp} {l p : Addr} {xs ys : List V} {o : HO}
theorem g9 (hl : H l = none) (s : aw H H1) : aw H (upd H1 l o) := fun b u e => by
 rw [aH (fb e hl)]; exact s b u e
noncomputable def NU (K : PySem.W.Frag) (H : Hp) (v : V) (a b : Int) : Prop := ∃ p, v = .ref p /\ ai K H p [.int a, .int b]
end
end Gz
namespace Gz
open PySem PySem.W PySem.Spec PySem.Calls PyProof.Rows Builtin Builtin.ObjectAttr Builtin.Getset_descriptor
section
variable {prog : Program} {w : World} {A : Around} {E : Value -> Shared -> Prop} {s : Shared} {K : Frag} {x C : Addr} {oe : Obj} {R : Result -> Shared -> Prop}
theorem NV {tp : Value} (X : K.In s.heap) (he : s.heap.get? x = some oe) (hc : oe.cls = .ref C) (hm : mroIn K C (.type "object") = some true)
 (h : R (.ok (.ret (.ref C))) s) : codeAny (model prog w) A (.call (.builtin "getset_descriptor.__get__") ⟨[.builtin "object.__class__", .ref x, tp], []⟩) R s := by
 obtain ⟨hh, g, dr, t, os⟩ := s
 have L0 : Looks (model prog w) hh (typeOf (.ref x)) (.ref C) := hc ▸ (Looks.ld he).andThen .now
 have L1 := looks_mroIn (M := model prog w) X hm
 refine codeAny_call_builtin KF.slot_gs.plain KF.entry_gs (KF.slot_gs.check _ _ _ _ _ _ _ _ KF.type_class (KF.args_gs _ _ _) ?_)
 unfold Builtin.«getset_descriptor.__get__» descrGet
 rw [dga_obj]
 refine wpAny_bind (wpAny_pure ?_)
 unfold descrGetter descrCheckInstance descrNameAndClass isInstance
 simp only [KF.owner_class]
 repeat lk
 refine ⟨Code.quiet_builtin _ (by decide +kernel), codeAny_builtin KF.entry_class ?_⟩
 unfold Builtin.«object.__class__» shownTypeOf
 repeat lk
 exact h
theorem NW {tk : Tok} {Q : Fin -> Shared -> Prop} (X : K.In s.heap) (he : s.heap.get? x = some oe) (hc : oe.cls = .ref C) (hm : mroIn K C (.type "object") = some true)
 (g3 : findIn K (.ref C) "__class__" = some (some (.builtin "object.__class__"))) (h : Q (.done (.ret (.ref C))) s) :
 wpAny (model prog w) A (Builtin.«object.__getattribute__» ⟨[.ref x, .str "__class__" tk], []⟩) Q E s := by
 obtain ⟨hh, g, dr, t, os⟩ := s
 have L0 : Looks (model prog w) hh (typeOf (.ref x)) (.ref C) := hc ▸ (Looks.ld he).andThen .now
 have L1 := looks_findIn (M := model prog w) X g3
 have f5 := KF.type_class
 have f6 := F.slot_gs_get.lookup
 have f7 := F.slot_gs_set.lookup
 repeat (any_goals (first | assumption | (with_reducible refine L0.at ?_) | (with_reducible refine L1.at ?_) | wp_step))
 refine NV X he hc hm ?_
 repeat (any_goals (first | assumption | wp_step))
theorem NX {GN : Value} {Q : Unit -> Shared -> Prop} (X : K.In s.heap) (he : s.heap.get? x = some oe) (hc : oe.cls = .ref C) (hb : mroIn K C (.type "BaseException") = some true) (h : Q () s) :
 wpAny (model prog w) A (checkBuiltinCall "BaseException.__getattribute__" ⟨[.ref x, GN], []⟩) Q E s := by
 obtain ⟨hh, g, dr, t, os⟩ := s
 have hk : builtinKind "BaseException.__getattribute__" = some .slot := by decide +kernel
 have NY : splitId "BaseException.__getattribute__" = some ("BaseException", "__getattribute__") := by decide +kernel
 have ha := F.args_bexc_ga (.ref x) GN
 have L0 : Looks (model prog w) hh (typeOf (.ref x)) (.ref C) := hc ▸ (Looks.ld he).andThen .now
 have L1 := looks_mroIn (M := model prog w) X hb
 simp only [checkBuiltinCall, hk, NY]
 refine wpAny_bind ?_
 unfold isInstance
 repeat (first | (with_reducible refine L0.at ?_) | (with_reducible refine L1.at ?_) | wp_step)
 exact h
theorem NZ {Q : Option Value -> Shared -> Prop} (X : K.In s.heap) (he : s.heap.get? x = some oe) (hc : oe.cls = .ref C) (hm : mroIn K C (.type "object") = some true) (hb : mroIn K C (.type "BaseException") = some true)
 (g1 : findIn K (.ref C) "__getattribute__" = some (some (.builtin "BaseException.__getattribute__"))) (g2 : findIn K (.ref C) "__getattr__" = some none)
 (g3 : findIn K (.ref C) "__class__" = some (some (.builtin "object.__class__"))) (h : Q (some (.ref C)) { s with toks := s.toks + 1 }) :
 wpAny (model prog w) A (getAttr? (.ref x) "__class__") Q E s := by
 obtain ⟨hh, g, dr, t, os⟩ := s
 have L0 : Looks (model prog w) hh (typeOf (.ref x)) (.ref C) := hc ▸ (Looks.ld he).andThen .now
 have L1 := looks_findIn (M := model prog w) X g1
 have L2 := looks_findIn (M := model prog w) X g2
 have f3 := F.excAttr_ValueError.ga.bind (.ref x)
 have N0 : (Value.builtin "BaseException.__getattribute__" == Value.builtin "object.__getattribute__") = false := by decide +kernel
 have hx1 : (onTheHeap (Value.ref C) && Value.builtin "BaseException.__getattribute__" == Value.builtin "object.__getattribute__") = false := by rw [N0]; rfl
 unfold getAttr? getAttrBy?
 repeat (any_goals (first | assumption | (with_reducible refine L0.at ?_) | (with_reducible refine L1.at ?_) | (with_reducible refine L2.at ?_) | wp_step))
 refine codeAny_call_builtin F.excAttr_ValueError.ga.plain F.entry_bexc_ga (NX X he hc hb (NW X he hc hm g3 ?_))
 repeat (any_goals (first | assumption | wp_step))
end
structure XC (K : Frag) (C : Addr) : Prop where
 ex : excIn K C [.type "ValueError", .type "Exception", .type "BaseException", .type "object"] "ValueError.__new__" = true
 mo : mroIn K C (.type "object") = some true
 mb : mroIn K C (.type "BaseException") = some true
 ga : findIn K (.ref C) "__getattribute__" = some (some (.builtin "BaseException.__getattribute__"))
 gr : findIn K (.ref C) "__getattr__" = some none
 gc : findIn K (.ref C) "__class__" = some (some (.builtin "object.__class__"))
theorem XC.cls {K : Frag} {C : Addr} (x : XC K C) : ∃ c d cd sl, K.lookup C = some ⟨c, d, .cls cd, sl⟩ := by
 have q := x.ex
 unfold excIn at q
 split at q
 ·rename_i dd cd sl ho
  exact ⟨_, _, _, _, ho⟩
 ·cases q
theorem N1 {K : Frag} {x C : Addr} (c : XC K C) : KitX K (.ref x) (.ref C) (fun h => ∃ oe : Obj, h.get? x = some oe /\ oe.cls = .ref C) where
 ty := fun _ _ _ ⟨oe, he, hc⟩ => hc ▸ (Looks.ld he).andThen .now
 it := fun _ _ X _ => by
  obtain ⟨a, b, cd, sl, ho⟩ := c.cls
  intro A' Q' E' s' k q
  unfold isType loadHead
  exact wpAny_bind (wpAny_loadPart (k _ _ (X _ _ ho)) (wpAny_pure q))
 ne := fun h tp dd ag n sl X y9 => by
  obtain ⟨a, b, cd, sl, ho⟩ := c.cls
  refine Bool.eq_false_iff.mpr fun q => ?_
  have e : C = tp := Value.ref.inj (beq_iff_eq.mp q)
  subst e
  have z := (X _ _ ho).symm.trans y9
  cases z
 ca := fun X ⟨oe, he, hc⟩ k => NZ X he hc c.mo c.mb c.ga c.gr c.gc k
theorem N2 {K : Frag} {h : Heap} {C : Addr} (X : K.In h) (c : XC K C) :
 ∃ bm N nm q bs hdct sn sub ab col dd k0 k1 k2 k3 k5 mN, h.get? C = some (excClassObj nm q C N bs bm hdct sn sub ab col dd k0 k1 k2 k3 k5 "ValueError.__new__") /\ h.Ns N mN /\ mN "__init__" = none /\
  OwnTail h [.type "ValueError", .type "Exception", .type "BaseException", .type "object"] bm := by
 have q := c.ex
 unfold excIn at q
 split at q
 ·rename_i dd cd sl ho
  split at q
  ·rename_i C' bm k0 k1 k2 k3 n k5 hm hs
   simp only [Bool.and_eq_true, beq_iff_eq, Bool.not_eq_true'] at q
   obtain ⟨⟨⟨⟨⟨rfl, rfl⟩, hdel⟩, ht⟩, ar⟩, hni⟩ := q
   obtain ⟨nm, bs, mro, ns, qn, hd, sn, sub, ab, col, del⟩ := cd
   dsimp only at hm hdel ar hni
   subst hm hdel
   have lM : sl = #[k0, k1, k2, k3, some (.builtin "ValueError.__new__"), k5] := by
    obtain ⟨l⟩ := sl
    simp only at hs
    rw [hs]
   subst lM
   exact ⟨bm, ns, nm, qn, bs, hd, sn, sub, ab, col, dd, k0, k1, k2, k3, k5, _, X _ _ ho, .of_isNs (isNs_of_in X ar), nsMap_none_of_in X ar hni, tail_of_in X ht⟩
  ·cases q
 ·cases q
end Gz
namespace Gz
open PySem PySem.Spec PyProof.Rows L2
noncomputable def eR (a C : Addr) : HO := .ext fun h => ∃ oe : Obj, h.get? a = some oe /\ oe.cls = .ref C
theorem N3 {P : Program} {w : World} {H : Hp} {h : Heap} {a C : Addr} {oe : Obj} (he : h.get? a = some oe) (hc : oe.cls = .ref C) : bD P w H h a (eR a C) :=
 ⟨⟨oe, he, hc⟩, ⟨oe, he⟩, fun h1 h2 ⟨o, e, c⟩ k => ⟨o, k o e, c⟩⟩
section
variable {X : Cx}
noncomputable def GO (K : PySem.W.Frag) (a : Addr) (c : V) (H : Hp) (Q : VK) : Prop := ∃ C b, H a = some (eR a C) /\ XC K C /\ fS c ≠ .none /\ PySem.W.kitOne K (.ref C) (fS c) = some b /\ Q (.bl b) H
theorem dB {K : PySem.W.Frag} (hK : X.K = K) : ed X (.builtin "isinstance") (fun xs H Q => ∃ a c, xs = [.ref a, c] /\ GO K a c H Q) := by
 subst hK
 intro pins s σ H xs us Q I r h
 obtain ⟨a, c, rfl, C, b, ha, xc, hc, e, q⟩ := h
 obtain ⟨u, v, rfl, rx, rc⟩ := vals2 r
 have ev : v = fS c := by
  cases c with
  | ref a => exact rc
  | ty n => exact rc
  | non => exact absurd rfl hc
  | bl _ => exact absurd rfl hc
  | int _ => exact absurd rfl hc
  | str _ => exact absurd rfl hc
  | byt _ => exact absurd rfl hc
  | flt _ => exact absurd rfl hc
 subst ev
 cases (show u = Value.ref a from rx)
 obtain ⟨hp, _, _⟩ := (show bD X.prog X.w H s.heap a (eR a C) from I.ar a _ ha)
 exact PySem.W.kia_one (N1 xc) I.bP hp e (fun z => nomatch z) fun tk => ⟨.bl b, H, I.tok tk, rfl, q⟩
end
theorem dC {K : PySem.W.Frag} {a C : Addr} {c : V} {H : Hp} {Q : VK} {b : Bool} (h : H a = some (eR a C)) (xc : XC K C) (hc : fS c ≠ .none) (e : PySem.W.kitOne K (.ref C) (fS c) = some b) (q : Q (.bl b) H) : GO K a c H Q := ⟨C, b, h, xc, hc, e, q⟩
end Gz
namespace Gz
open PySem PySem.Spec PyProof.Rows L2
theorem bD.some {P : Program} {w : World} {H : Hp} {h : Heap} {a : Addr} {o : HO} (x : bD P w H h a o) : ∃ ob, h.get? a = some ob := by
 cases o with
 | lst xs => obtain ⟨_, _, _, _, e⟩ := x; exact ⟨_, e⟩
 | tup xs => obtain ⟨_, _, _, o, e, _⟩ := x; exact ⟨_, e⟩
 | dK kvs => obtain ⟨_, _, _, _, o, _, _, e, _⟩ := x; exact ⟨_, e⟩
 | dT kvs => obtain ⟨_, _, _, _, o, _, _, e, _⟩ := x; exact ⟨_, e⟩
 | set S n => obtain ⟨o, _, _, _, e, _⟩ := x; exact ⟨_, e⟩
 | ins C dx fs => obtain ⟨_, _, _, e, _⟩ := x; exact ⟨_, e⟩
 | own y => exact x
 | xd fs => obtain ⟨_, ⟨_, _, _, e, _⟩, _⟩ := x; exact ⟨_, e⟩
 | eG lo hi => obtain ⟨_, _, _, e⟩ := x; exact ⟨_, e⟩
 | bj ob u => obtain ⟨e, _⟩ := x; exact ⟨_, e⟩
 | tbl ps => exact ⟨_, x⟩
 | met f y => exact ⟨_, x⟩
 | ext φ => exact x.2.1
noncomputable def GP (X : Cx) (E : XK) : Prop := ∀ (pins : List (Addr × Obj)) (σ : L2.St) (H : Hp) (s : Shared) (e C : Addr) (vs : List Value) (h' : Heap), Inv X pins σ H s -> Heap.MadeExcOf s.heap h' e (.ref C) vs -> E (.ref C) none H -> X.xe (.ref e) { s with heap := h' }
noncomputable def GQ (C : Addr) (E : XK) (ta : TA) : TS := fun D σ H => ta σ H fun vs H1 => vs.length <= sizeLine /\ E (.ref C) none H1
section
variable {X : Cx}
theorem tG {x : Str} {np cJ pos : Pos} {e₀ : Expr} {rest : List Expr} {ta : TA} {C : Addr} {E : XK} (hx : GP X E) (hg : Gl X x) (hm : X.mg x = some (.ref C)) (xc : XC X.K C) (hc : X.calm = true) (ha : PA X (e₀ :: rest) ta)
 (hd : (x == ("__debug__" : Str)) = false := by decide) (he : starEach (e₀ :: rest) X.env = (false, eval e₀ X.env) :: starEach rest X.env := by rfl)
 (eM : (backTo cJ (starEach rest X.env)).any (·.1) = false := by rfl) :
 PS X (.Raise (some (.Call (.Name x np) (e₀ :: rest) [] cJ)) none pos) (GQ C E ta) := by
 intro pins s σ H D I h
 obtain ⟨tl, N, nm, q, bs, hdct, sn, sub, ab, col, dd, k0, k1, k2, k3, k5, mN, hC, hN, hni, T⟩ := N2 I.ok.mod.kin xc
 refine wpAny_Raise_call_subU (C := C) (nm := nm) (q := q) (N := N) (bs := bs) (bm := tl) (hdct := hdct) (sn := sn) (sub := sub) (ab := ab) (col := col) (dd := dd) (k0 := k0) (k1 := k1) (k2 := k2) (k3 := k3) (k5 := k5)
  PySem.F.excBase_ValueError (by decide +kernel) PySem.F.excBase_ValueError (mN := mN) (T.hasType PySem.F.excBase_ValueError.hasBase) (I.ok.hd hc) (by rw [he]; show (false || (backTo cJ (starEach rest X.env)).any (·.1)) = false; rw [eM]; rfl) hni (oT I hg hm ⟨rfl, ?_⟩ hd)
 have tH := ha cJ pins s σ H _ I h
 rw [he] at tH ⊢
 refine Calls.evalArgs_plain (wpAny_mono tH (fun us s₂ h₂ => ?_) fun _ _ y => y)
 obtain ⟨vs, H1, I1, r, hl, hE⟩ := h₂
 exact ⟨rfl, by rw [<- r.length]; exact hl, I1.bk _ _ hC, hN.keeps I1.bk, T.keeps I1.bk, fun h' e hm => hx pins σ H1 s₂ e C us h' I1 hm hE⟩
end
section
variable {P : Program} {w : World} {K : PySem.W.Frag} {mg : Str -> Option Value} {base : Heap} {N : List Str} {qual : Str} {scope : Scope} {f : Addr} {cd : Value} {A : Around} {outer : List Env} {s : Shared} {H : Hp} {E : XK}
theorem GR {env : Env} {b L : Addr} (hf : env.frame = some L) (h : b ∈ aT (env :: outer)) : b = L ∨ b ∈ aT outer := by
 unfold aT at h
 rw [List.filterMap_cons, hf] at h
 exact List.mem_cons.mp h
theorem tI : GP (ee (aK P w) P w K mg base N qual scope f cd A outer s H E) E := by
 intro pins σ H1 s1 e C vs h1 I hx hE
 have qj : (ee (aK P w) P w K mg base N qual scope f cd A outer s H E).A.frames = some (envOfC qual scope s.heap.objs.size f cd :: outer) := I.ok.frames
 have hF : s1.heap.FunFrames base (envOfC qual scope s.heap.objs.size f cd :: outer) := I.stack
 have hJ : ∀ env ∈ (envOfC qual scope s.heap.objs.size f cd :: outer), ∀ b, env.frame = some b -> b ∈ aT (envOfC qual scope s.heap.objs.size f cd :: outer) := fun env he b hb => List.mem_filterMap.mpr ⟨env, he, hb⟩
 have N4 : ∀ b ∈ aT (envOfC qual scope s.heap.objs.size f cd :: outer), H1 b = none := I.k6
 have k7 : ∀ b o, s.heap.get? b = some o -> b ≠ s.heap.objs.size := fun b o e => Nat.ne_of_lt (Heap.lt_size e)
 have gn : ∀ b o, s.heap.get? b = some o -> b ∉ aT outer -> b ∉ aT (envOfC qual scope s.heap.objs.size f cd :: outer) := fun b o e hb z => by
  rcases GR rfl z with z | z
  ·exact k7 b o e z
  ·exact hb z
 have ub : Un (aT outer) [] H H1 s.heap s1.heap := I.base
 refine wpAny_leaves_madeW (base := PySem.W.hideAll s1.heap (aT (envOfC qual scope s.heap.objs.size f cd :: outer))) qj rfl (fun b o q => PySem.W.of_hideAll _ q) (PySem.W.funFrames_hide hF hJ) hx fun h' t fl tup bt up => ?_
 have stays := fl.1
 have lN : ∀ b o, s1.heap.get? b = some o -> b ∉ aT (envOfC qual scope s.heap.objs.size f cd :: outer) -> (PySem.W.hideAll s1.heap (aT (envOfC qual scope s.heap.objs.size f cd :: outer))).get? b = some o := fun b o q hb => PySem.W.hideAll_get _ q hb
 have hU : ∀ b ∈ aT (envOfC qual scope s.heap.objs.size f cd :: outer), ∀ o, s1.heap.get? b = some o -> ∃ sl, h'.get? b = some { o with slots := sl } := fun b hb o q => by
  obtain ⟨_, o', b5, hnf⟩ := hF.mem hb
  rw [q] at b5; cases b5
  exact up b o (hx.keeps b o q) hnf
 refine ⟨e, .ref C, .ref t, H1, _, rfl, I.os, I.bare, ⟨fun b o q n hb bR => ?_, fun b o q n hb bR => ?_, ub.free, fun b o q bR => ?_, ub.cb, ub.cc, ub.cB⟩, fun b o q n hb => ?_, fun b o q hb => ?_, fun a o q => ?_, ?_, ?_, fl, hE⟩
 ·exact stays b o (lN b o (ub.keep b o q n hb bR) (gn b o q hb))
 ·obtain ⟨sl, e1⟩ := ub.slot b o q n hb bR
  obtain ⟨fc, e2⟩ := hU b (by unfold aT; rw [List.filterMap_cons]; exact List.mem_cons_of_mem _ hb) _ e1
  exact ⟨fc, e2⟩
 ·obtain ⟨o', e1⟩ := ub.there b o q bR
  by_cases hb : b ∈ aT (envOfC qual scope s.heap.objs.size f cd :: outer)
  ·obtain ⟨sl, e2⟩ := hU b hb o' e1
   exact ⟨_, e2⟩
  ·exact ⟨o', stays b o' (lN b o' e1 hb)⟩
 ·exact lN b o (ub.keep b o q n hb (by simp)) (gn b o q hb)
 ·obtain ⟨o', e1⟩ := ub.there b o q (by simp)
  exact ⟨o', lN b o' e1 (gn b o q hb)⟩
 ·refine (I.ar a o q).dn (fun b u hb z => lN b u z fun hm => ?_) (fun _ z => z) fun _ _ z => z
  have := N4 b hm
  rcases hb with hb | hb
  ·rw [hb, q] at this; cases this
  ·rw [hb] at this; cases this
 ·cases q : H1 e with
  | none => rfl
  | some u =>
   obtain ⟨ob, z⟩ := bD.some (I.ar e u q)
   rw [hx.new] at z; cases z
 ·cases q : s.heap.get? e with
  | none => rfl
  | some u =>
   obtain ⟨o', z⟩ := ub.there e u q (by simp)
   rw [hx.new] at z; cases z
theorem tJ : Passes (aK P w) (ee (aK P w) P w K mg base N qual scope f cd A outer s H E) E := by
 intro pins σ H1 s1 ev s2 I cx
 obtain ⟨x, cls, a0, H', B, rfl, os, bare, un, kb, tb, ar, hx, hn, fl, hE⟩ := cx
 have qj : (ee (aK P w) P w K mg base N qual scope f cd A outer s H E).A.frames = some (envOfC qual scope s.heap.objs.size f cd :: outer) := I.ok.frames
 have hF : s1.heap.FunFrames base (envOfC qual scope s.heap.objs.size f cd :: outer) := I.stack
 have k7 : ∀ b o, s.heap.get? b = some o -> b ≠ s.heap.objs.size := fun b o e => Nat.ne_of_lt (Heap.lt_size e)
 have gn : ∀ b o, s.heap.get? b = some o -> b ∉ aT outer -> b ∉ aT (envOfC qual scope s.heap.objs.size f cd :: outer) := fun b o e hb z => by
  rcases GR rfl z with z | z
  ·exact k7 b o e z
  ·exact hb z
 have N5 : ∀ b, b ∈ aT outer -> b ∈ aT (envOfC qual scope s.heap.objs.size f cd :: outer) := fun b hb => by
  unfold aT; rw [List.filterMap_cons]; exact List.mem_cons_of_mem _ hb
 have ub : Un (aT outer) [] H H1 s.heap s1.heap := I.base
 have GS : Un (aT (envOfC qual scope s.heap.objs.size f cd :: outer)) [] H1 H' s1.heap s2.heap := un
 have GU : ∀ b o, s1.heap.get? b = some o -> H1 b = none -> b ∉ aT (envOfC qual scope s.heap.objs.size f cd :: outer) -> B.get? b = some o := kb
 have tK : ∀ b o, s1.heap.get? b = some o -> b ∉ aT (envOfC qual scope s.heap.objs.size f cd :: outer) -> ∃ o', B.get? b = some o' := tb
 have za : ∀ b ∈ aT (envOfC qual scope s.heap.objs.size f cd :: outer), H1 b = none := I.k6
 refine wpAny_leaves_onW qj rfl fl fun h' tL up => ?_
 have stays := tL.1
 have hU : ∀ b ∈ aT (envOfC qual scope s.heap.objs.size f cd :: outer), ∀ o, s1.heap.get? b = some o -> ∃ sl, h'.get? b = some { o with slots := sl } := fun b hb o q => by
  obtain ⟨_, o', b5, hnf⟩ := hF.mem hb
  rw [q] at b5; cases b5
  obtain ⟨sl, e1⟩ := GS.slot b o q (za b hb) hb (by simp)
  obtain ⟨fc, e2⟩ := up b _ e1 hnf
  exact ⟨fc, e2⟩
 refine ⟨x, cls, a0, H', B, rfl, os.trans I.os, bare, ⟨fun b o q n hb bR => ?_, fun b o q n hb bR => ?_, fun b o q n bR => ?_, fun b o q bR => ?_, fun b xs q => un.cb _ _ (ub.cb _ _ q), fun b o u q => un.cc _ _ _ (ub.cc _ _ _ q), fun b ps q => ?_⟩, fun b o q n hb => ?_, fun b o q hb => ?_, ar, hx, ?_, tL, hE⟩
 ·exact stays b o (GU b o (ub.keep b o q n hb bR) (ub.free b o q n bR) (gn b o q hb))
 ·obtain ⟨sl, e1⟩ := ub.slot b o q n hb bR
  obtain ⟨fc, e2⟩ := hU b (N5 b hb) _ e1
  exact ⟨fc, e2⟩
 ·obtain ⟨o', e1⟩ := ub.there b o q bR
  exact GS.free b o' e1 (ub.free b o q n bR) (by simp)
 ·obtain ⟨o', e1⟩ := ub.there b o q bR
  by_cases hb : b ∈ aT (envOfC qual scope s.heap.objs.size f cd :: outer)
  ·obtain ⟨sl, e2⟩ := hU b hb o' e1
   exact ⟨_, e2⟩
  ·obtain ⟨o2, e2⟩ := tK b o' e1 hb
   exact ⟨o2, stays b o2 e2⟩
 ·obtain ⟨m1, e1⟩ := ub.cB b ps q
  obtain ⟨m2, e2⟩ := un.cB b _ e1
  exact ⟨m1 ++ m2, by rw [e2, Array.append_assoc]⟩
 ·exact GU b o (ub.keep b o q n hb (by simp)) (ub.free b o q n (by simp)) (gn b o q hb)
 ·obtain ⟨o', e1⟩ := ub.there b o q (by simp)
  exact tK b o' e1 (gn b o q hb)
 ·cases q : s.heap.get? x with
  | none => rfl
  | some u =>
   obtain ⟨o', z⟩ := ub.there x u q (by simp)
   rw [hn] at z; cases z
theorem dJ {x qual : Str} {st : Stmt} {f : Addr} {fd : FuncData} {N ps : List Str} {k : Nat} {sp : Sp} (F : aQ K x qual st f fd) (S : aS N ps (ax st)) (len : ∀ vs H Q E, sp vs H Q E -> vs.length = ps.length)
 (pP : ∀ (aI : Value) (A : Around) (outer : List Env) (s : Shared) (H : Hp) (vs : List V) (Q : VK) (E : XK), bQ k (A.deeper (envOfC qual (ax st) s.heap.objs.size f aI)) -> sp vs H Q E ->
   ∃ t, bg (ee (aK P w) P w K mg base N qual (ax st) f aI A outer s H E) (aM st) t /\ t { nx := fun _ H' => Q .non H', rt := Q } (start N vs) H) : aJ P w K mg base (aK P w) (k + 1) f fd ps sp := by
 obtain ⟨oc, od, kV, doc, pm, an, aI, ct, gy, rfl, lk, eH⟩ := F.ex
 refine Gf lk eH S len fun A outer s H vs Q E hr gW => ?_
 exact pP aI A outer s H vs Q E hr gW
end
end Gz
namespace Gz
open PySem PySem.Spec PyProof.Rows L2
noncomputable abbrev Xp (X : Cx) (F : Value -> Shared -> Prop) (pn : List (Addr × Obj)) : Cx := { X with xe := F, pn := pn }
noncomputable abbrev Xh (X : Cx) (A' : Around) (pn : List (Addr × Obj)) : Cx := { X with A := A', calm := false, xe := fun _ _ => False, pn := pn }
noncomputable def N6 (K : PySem.W.Frag) (m i : Nat) (G : Addr) (tb th : TS) (E' : XK) : TS := fun D σ H => tb D σ H /\ ∀ cls H', E' cls none H' -> ∃ C, cls = .ref C /\ PySem.W.exmOne K (.ref C) (.ref G) = some true /\
 ∀ a, H' a = none -> th { nx := fun σ' H2 => D.nx (σ'.set i none) H2, rt := D.rt, bk := fun σ' H2 => D.bk (σ'.set i none) H2, ct := fun σ' H2 => D.ct (σ'.set i none) H2 } ((List.replicate m none).set i (some (.ref a))) (upd H' a (eR a C))
section
variable {X : Cx} {F : Value -> Shared -> Prop} {pins pn : List (Addr × Obj)} {σ : L2.St} {H : Hp} {s : Shared} {A' : Around}
theorem N7 (ok : X.Ok) : (Xp X F pn).Ok := ⟨ok.mod, ok.kind, ok.glob, ok.blt, ok.above, ok.inj, ok.has, ok.cab, ok.hd, ok.frames, ok.stk, ok.exf, ok.bs, ok.bsz, ok.noex, ok.exfs, ok.dq, ok.frf⟩
theorem GV (ok : (Xp X F pn).Ok) : X.Ok := ⟨ok.mod, ok.kind, ok.glob, ok.blt, ok.above, ok.inj, ok.has, ok.cab, ok.hd, ok.frames, ok.stk, ok.exf, ok.bs, ok.bsz, ok.noex, ok.exfs, ok.dq, ok.frf⟩
theorem N8 (ok : X.Ok) (hA : A'.frames = X.A.frames) : (Xh X A' pn).Ok := ⟨ok.mod, ok.kind, ok.glob, ok.blt, ok.above, ok.inj, ok.has, ok.cab, (fun z => nomatch z), hA.trans ok.frames, ok.stk, ok.exf, ok.bs, ok.bsz, ok.noex, ok.exfs, ok.dq, ok.frf⟩
theorem N9 (I : Inv X pins σ H s) : Inv (Xp X F (X.pn ++ pins)) [] σ H s := ⟨N7 I.ok, I.os, I.bare, I.base, I.loc, I.cell, I.free, I.cS, fun p hp => I.pin p (by simpa using hp), I.ar, I.len⟩
theorem tM (I : Inv (Xp X F (X.pn ++ pins)) [] σ H s) : Inv X pins σ H s := ⟨GV I.ok, I.os, I.bare, I.base, I.loc, I.cell, I.free, I.cS, fun p hp => I.pin p (by simpa using hp), I.ar, I.len⟩
theorem GW {oR : List (Addr × Obj)} (I : Inv (Xp X F pn) oR σ H s) (hA : A'.frames = X.A.frames) : Inv (Xh X A' pn) [] σ H s :=
 ⟨N8 (GV I.ok) hA, I.os, I.bare, I.base, I.loc, I.cell, I.free, I.cS, fun p hp => I.pin p (by simp at hp; exact List.mem_append_left _ hp), I.ar, I.len⟩
theorem SP.Oa {D : Ends} {f : Flow} {s' : Shared} (h : SP (Xp X F (X.pn ++ pins)) [] D f s') : SP X pins D f s' := by
 cases f with
 | next => obtain ⟨σ', H', I, q⟩ := h; exact ⟨σ', H', tM I, q⟩
 | brk => obtain ⟨σ', H', I, q⟩ := h; exact ⟨σ', H', tM I, q⟩
 | cont => obtain ⟨σ', H', I, q⟩ := h; exact ⟨σ', H', tM I, q⟩
 | ret u => obtain ⟨v, σ', H', I, r, q⟩ := h; exact ⟨v, σ', H', tM I, r, q⟩
theorem tN {M : Model} {A : Around} {E : Value -> Shared -> Prop} {n : Str} {i : Nat} {tO : Pos} {Q : Unit -> Shared -> Prop} (dJ : X.Ok) (I : Inv (Xh X A' (X.pn ++ pins)) [] σ H s) (hN : X.N.Nodup) (hi : X.N[i]? = some n) (hl : X.env.scope.names.lookup n = some .local)
 (h : ∀ s', Inv X pins (σ.set i none) H s' -> Q () s') : wpAny M A (do bindName X.env n .none; unbindBehindTheSuite X.env n tO) Q E s := by
 obtain ⟨m, hn, hlk⟩ := id I.loc
 have yz : (X.env.scope.kind == .class || (X.env.scope.kind == .module && X.env.locals != X.env.globals)) = false := by rw [I.ok.kind]; rfl
 have fe : ∀ x c, X.env.cells.lookup x = some c -> c ≠ X.env.locals := I.fe
 have GX : H X.env.locals = none := I.free
 obtain ⟨oL, _, _, fK, _⟩ := id hn
 refine wpAny_nameGoes_keeps hl hn yz fun h' v yA hs => ?_
 have tracked : bM X.prog X.w H h' := fun b ob e => by
  refine (I.ar b ob e).dn (fun c w' hc q => (hs.2 c ?_).trans q) (fun _ q => q) fun _ _ q => q
  rintro rfl
  rcases hc with hc | hc
  ·rw [<- hc, GX] at e; cases e
  ·rw [GX] at hc; cases hc
 have hV : X.s₀.heap.objs.size <= X.env.locals := dJ.above
 refine h _ ⟨dJ, I.os, I.bare, ⟨fun b o e nn hb hx => ?_, fun b o e nn hb hx => ?_, I.base.free, fun b o e hx => ?_, I.base.cb, I.base.cc, I.base.cB⟩, ⟨_, yA, fun j y v' e1 e2 e3 => ?_⟩, fun y c e => ?_, I.free, I.cS, fun p hp => ?_, tracked, by simpa using I.len⟩
 ·exact (hs.2 b (Nat.ne_of_lt (Nat.lt_of_lt_of_le (Heap.lt_size e) hV))).trans (I.base.keep b o e nn hb hx)
 ·obtain ⟨sl, e1⟩ := I.base.slot b o e nn hb hx
  exact ⟨sl, (hs.2 b (Nat.ne_of_lt (Nat.lt_of_lt_of_le (Heap.lt_size e) hV))).trans e1⟩
 ·obtain ⟨o', e1⟩ := I.base.there b o e hx
  exact ⟨o', (hs.2 b (Nat.ne_of_lt (Nat.lt_of_lt_of_le (Heap.lt_size e) hV))).trans e1⟩
 ·have GY : j ≠ i := by
   rintro rfl
   by_cases a9 : j < σ.length
   ·rw [List.getElem?_set_self a9] at e2; cases e2
   ·rw [List.getElem?_eq_none (by rw [List.length_set]; omega)] at e2; cases e2
  rw [List.getElem?_set_ne (Ne.symm GY)] at e2
  obtain ⟨u', r', q⟩ := hlk j y v' e1 e2 e3
  refine ⟨u', r', ?_⟩
  rcases q with ⟨k, e⟩ | ⟨k, c, e, z⟩
  ·refine .inl ⟨k, ?_⟩
   have : y ≠ n := fun e => GY (yy hN e1 (e ▸ hi))
   simp [this, e]
  ·exact .inr ⟨k, c, e, z.sameBut hs (fe y c e)⟩
 ·obtain ⟨w', z⟩ := I.cell y c e
  exact ⟨w', z.sameBut hs (fe y c e)⟩
 ·obtain ⟨e, nn, ne, nf, d⟩ := I.pin p (by simpa using hp)
  exact ⟨(hs.2 p.1 ne).trans e, nn, ne, nf, d⟩
theorem Ob {body zb : List Stmt} {b₀ : Stmt} {x n : Str} {np tO pos : Pos} {tb th : TS} {G : Addr} (E' : XK) (i : Nat) (cn : X.stack = X.env :: X.outer) (Oc : X.env.frame = some X.env.locals) (hg : Gl X x) (hm : X.mg x = some (.ref G))
 (hN : X.N.Nodup) (hi : X.N[i]? = some n) (hl : X.env.scope.names.lookup n = some .local)
 (hb : ∀ F pn, Passes (aK X.prog X.w) (Xp X F pn) E' -> bg (Xp X F pn) body tb) (hh : ∀ A' pn, bg (Xh X A' pn) (b₀ :: zb) th) (hd : (x == ("__debug__" : Str)) = false := by decide)
 (hf : X.fn n = true ∨ X.env.scope.names.lookup n = some .local := by first | exact .inl rfl | exact .inr rfl | assumption) :
 PS X (.Try body [.ExceptHandler (some (.Name x np)) (some n) (b₀ :: zb) tO] [] [] pos) (N6 X.K X.N.length i G tb th E') := by
 intro pins s σ H D I h
 obtain ⟨h1, h2⟩ := h
 refine wpAny_Try_except ?_
 refine wpAny_mono (hb (fun e s₁ => wpAny (model X.prog X.w) X.A (noteFrame e X.env) (fun _ s₂ => wpAny (model X.prog X.w) X.A (setFlight e none) (fun _ s₃ => wpAny (model X.prog X.w) X.A (handleBy e X.env [.ExceptHandler (some (.Name x np)) (some n) (b₀ :: zb) tO]) (SP X pins D) X.xe s₃) X.xe s₂) X.xe s₁) (X.pn ++ pins) ?_ [] s σ H D (N9 I) h1) (fun f s1 q => ?_) fun e s1 q => q
 ·intro oR σ' H1 s1 ev s2 I1 cx
  obtain ⟨xx, cls, a0, H', B, rfl, os, bare, un, kb, tK, ar, hx, hn, fl, hE⟩ := cx
  obtain ⟨C, rfl, gC, hth⟩ := h2 cls H' hE
  have dJ := I.ok
  have qj : X.A.frames = some (X.env :: X.outer) := by rw [<- cn]; exact dJ.frames
  have tL : Heap.FlyingW B (X.env :: X.outer) xx (.ref C) a0 s2.heap := by
   have z : Heap.FlyingW B X.stack xx (.ref C) a0 s2.heap := fl
   rw [cn] at z
   exact z
  have hF : s1.heap.FunFrames X.base X.stack := I1.stack
  have za : ∀ b ∈ aT X.stack, H1 b = none := I1.k6
  have GZ : ∀ h : Heap, B.StaysIn h -> s2.heap.UpToSlots h -> Un (aT X.stack) [] H1 H' s1.heap h := fun h stays up => by
   have hU : ∀ b ∈ aT X.stack, ∀ o, s1.heap.get? b = some o -> ∃ sl, h.get? b = some { o with slots := sl } := fun b hb o q => by
    obtain ⟨_, o', b5, hnf⟩ := hF.mem hb
    rw [q] at b5; cases b5
    obtain ⟨sl, e1⟩ := un.slot b o q (za b hb) hb (by simp)
    obtain ⟨fc, e2⟩ := up b _ e1 hnf
    exact ⟨fc, e2⟩
   refine ⟨fun b o q nn hb bR => stays b o (kb b o q nn hb), fun b o q nn hb bR => hU b hb o q, un.free, fun b o q bR => ?_, un.cb, un.cc, un.cB⟩
   by_cases hb : b ∈ aT X.stack
   ·obtain ⟨sl, e2⟩ := hU b hb o q
    exact ⟨_, e2⟩
   ·obtain ⟨o2, e2⟩ := tK b o q hb
    exact ⟨o2, stays b o2 e2⟩
  refine wpAny_looks_onW qj Oc tL fun h₄ Od Oe => ?_
  refine wpAny_landsW Od fun h₅ tP Of => ?_
  have G0 : s2.heap.UpToSlots h₅ := Oe.trans Of
  have I5 : Inv (Xh X (X.A.mark (some (.ref xx))) (X.pn ++ pins)) [] σ' H' { s2 with heap := h₅ } := by
   refine GW (I1.sj (s' := { s2 with heap := h₅ }) (ch := []) os (GZ h₅ tP.1 G0) (ar.kept fun b u q => tP.1 b u q) bare (fun b z => absurd z (by simp))) ?_
   first | rfl | simp
  refine wpAny_handleBy_cons (codeAny_handlers_test ?_) (by intro q; cases q)
  refine oT (X := Xh X (X.A.mark (some (.ref xx))) (X.pn ++ pins)) I5 hg hm ?_ hd
  obtain ⟨ob, hob, hobc⟩ := tP.there
  have LT : PySem.W.Looks (model X.prog X.w) h₅ (typeOf (.ref xx)) (.ref C) := hobc ▸ (PySem.W.Looks.ld hob).andThen .now
  refine (PySem.W.exm_one (M := model X.prog X.w) (h := h₅) I5.bP LT gC).here ?_
  refine codeAny_handlers_suite_as ?_
  refine lands_againW tP fun h₆ zc Og => ?_
  have Oh : s2.heap.UpToSlots h₆ := G0.trans Og
  obtain ⟨oe, hoe, hoec⟩ := zc.there
  have u6 := GZ h₆ zc.1 Oh
  have Oi : ∀ b o, s1.heap.get? b = some o -> b ≠ xx := fun b o q z => by rw [z, hn] at q; cases q
  have qk : ∀ b o, H' b = some o -> b ≠ xx := fun b o q z => by rw [z, hx] at q; cases q
  have Oj : Un (aT X.stack) [] H1 (upd H' xx (eR xx C)) s1.heap h₆ := by
   refine ⟨u6.keep, u6.slot, fun b o q nn bR => ?_, u6.there, fun b xs q => ?_, fun b o u q => ?_, fun b ps q => ?_⟩
   ·rw [aH (Oi b o q)]; exact u6.free b o q nn bR
   ·have := u6.cb b xs q
    rw [aH (qk b _ this)]; exact this
   ·have := u6.cc b o u q
    rw [aH (qk b _ this)]; exact this
   ·obtain ⟨more, z⟩ := u6.cB b ps q
    exact ⟨more, by rw [aH (qk b _ z)]; exact z⟩
  have Ol : bM X.prog X.w (upd H' xx (eR xx C)) h₆ := fun b u q => by
   by_cases br : b = xx
   ·subst br; rw [aq] at q; cases q
    exact N3 hoe hoec
   ·rw [aH br] at q
    exact (ar b u q).dn (fun c v _ z => zc.1 c v z) (fun c z => by rw [aH (qk c _ z)]; exact z) fun c xs z => by rw [aH (qk c _ z)]; exact z
  have I6 : Inv (Xh X (X.A.mark (some (.ref xx))) (X.pn ++ pins)) [] σ' (upd H' xx (eR xx C)) { s2 with heap := h₆ } := by
   refine GW (I1.sj (s' := { s2 with heap := h₆ }) (ch := []) os Oj Ol bare (fun b z => absurd z (by simp))) ?_
   first | rfl | simp
  have I7 : Inv (Xh X (X.A.mark (some (.ref xx))) (X.pn ++ pins)) [] (List.replicate X.N.length none) (upd H' xx (eR xx C)) { s2 with heap := h₆ } :=
   I6.weak (by rw [List.length_replicate, I6.len]) fun j v z => by
    rw [List.getElem?_replicate] at z
    split at z <;> cases z
  refine yC (X := Xh X (X.A.mark (some (.ref xx))) (X.pn ++ pins)) (v := .ref xx) I7 hN hi (.inl hl) rfl (fun s8 I8 => ?_) hf
  refine wpAny_mono (hh (X.A.mark (some (.ref xx))) (X.pn ++ pins) [] s8 _ _ _ I8 (hth xx hx)) (fun fl s9 q => ?_) fun _ _ z => z.elim
  cases fl with
  | next =>
   obtain ⟨σ9, H9, I9, q⟩ := q
   exact tN dJ I9 hN hi hl fun s' J => ⟨_, _, J, q⟩
  | brk =>
   obtain ⟨σ9, H9, I9, q⟩ := q
   exact tN dJ I9 hN hi hl fun s' J => ⟨_, _, J, q⟩
  | cont =>
   obtain ⟨σ9, H9, I9, q⟩ := q
   exact tN dJ I9 hN hi hl fun s' J => ⟨_, _, J, q⟩
  | ret u =>
   obtain ⟨v, σ9, H9, I9, r, q⟩ := q
   exact tN dJ I9 hN hi hl fun s' J => ⟨v, _, _, J, r, q⟩
 ·have q' := SP.Oa q
  cases f with
  | next =>
   obtain ⟨σ', H', I', q'⟩ := q'
   exact wpAny_execs_nil ⟨σ', H', I', q'⟩
  | brk => exact q'
  | cont => exact q'
  | ret u => exact q'
end
theorem Om {K : PySem.W.Frag} {C G : Addr} {cd : ClassData} {b : Bool} (h1 : PySem.W.clsIn K G = some cd) (h2 : PySem.W.typeIn K (.ref G) = some (.type "type")) (h3 : PySem.W.subIn K (.ref C) (.ref G) = some b) (h4 : PySem.W.subIn K (.ref G) (.type "BaseException") = some true) :
 PySem.W.exmOne K (.ref C) (.ref G) = some b := by
 unfold PySem.W.exmOne
 rw [if_pos (by rw [h4]; rfl)]
 show (if ((PySem.W.clsIn K G).isSome && PySem.W.typeIn K (.ref G) == some (.type "type")) = true then PySem.W.subIn K (.ref C) (.ref G) else none) = some b
 rw [if_pos (by rw [h1, h2]; rfl)]
 exact h3
end Gz
namespace Gz
noncomputable def tQ (a b : Int) : Int := ((Nat.gcd a.natAbs b.natAbs : Nat) : Int)
noncomputable def sg (t b : Int) : Int := if b < 0 then -tQ t b else tQ t b
noncomputable def rt (t b : Int) : Int := t.fdiv (sg t b)
noncomputable def rb (t b : Int) : Int := b.fdiv (sg t b)
theorem Oo (x : Int) : (x % 1000000000000000000000000000000).natAbs < 2 ^ 200 := by
 have h1 := Int.emod_nonneg x (show (1000000000000000000000000000000 : Int) ≠ 0 by decide)
 have h2 := Int.emod_lt_of_pos x (show (0 : Int) < 1000000000000000000000000000000 by decide)
 omega
end Gz
namespace Gz
open PySem PySem.W PyProof.Rows
section
variable {lt : Nat -> Nat -> Bool} {n : Nat}
structure Ord (lt : Nat -> Nat -> Bool) : Prop where
 asym : ∀ {a b}, lt a b = true -> lt b a = false
 tr : ∀ {a b c}, lt b a = false -> lt c b = false -> lt c a = false
theorem Ord.rfl' (O : Ord lt) (a : Nat) : lt a a = false := by
 cases h : lt a a with
 | false => rfl
 | true => rw [O.asym h] at h; cases h
noncomputable def zd (lt : Nat -> Nat -> Bool) (p : Array Nat) (k : Nat) : Prop := ∀ i j, i <= j -> j < k -> lt (p.getD j 0) (p.getD i 0) = false
noncomputable def ze (lt : Nat -> Nat -> Bool) (p : Array Nat) (k : Nat) : Prop := ∀ i j, i <= j -> j < k -> lt (p.getD i 0) (p.getD j 0) = false
noncomputable def ql (n : Nat) (p : Array Nat) : Prop := p.toList.Perm (List.range n)
theorem ql.size {p : Array Nat} (h : ql n p) : p.size = n := by
 have := h.length_eq
 simpa using this
theorem ql.of {p q : Array Nat} (h : ql n p) (hq : q.Perm p) : ql n q := (Array.perm_iff_toList_perm.mp hq).trans h
theorem zd.succ (O : Ord lt) {p : Array Nat} {k : Nat} (h : zd lt p k) (hk : 1 <= k) (hn : lt (p.getD k 0) (p.getD (k - 1) 0) = false) : zd lt p (k + 1) := fun i j qm hj => by
 by_cases e : j = k
 ·subst e
  by_cases ei : i = j
  ·subst ei; exact O.rfl' _
  ·exact O.tr (h i (j - 1) (by omega) (by omega)) hn
 ·exact h i j qm (by omega)
theorem ze.succ (O : Ord lt) {p : Array Nat} {k : Nat} (h : ze lt p k) (hk : 1 <= k) (hn : lt (p.getD (k - 1) 0) (p.getD k 0) = false) : ze lt p (k + 1) := fun i j qm hj => by
 by_cases e : j = k
 ·subst e
  by_cases ei : i = j
  ·subst ei; exact O.rfl' _
  ·exact O.tr hn (h i (j - 1) (by omega) (by omega))
 ·exact h i j qm (by omega)
noncomputable def G1 {α : Type} (lt : Nat -> Nat -> Bool) : KasT α -> α
 | .ret a => a
 | .ask i j k => G1 lt (k (lt i j))
noncomputable def Oq (lt : Nat -> Nat -> Bool) (n : Nat) : Array Nat := if n < 2 then List.toArray (List.range n) else G1 lt (kas_sort n)
end
end Gz
namespace Gz
open PySem PySem.Spec PyProof.Rows L2
local macro_rules | `(tactic| walk_at "om") => `(tactic| ((try simp only [PySem.Addr] at *); omega))
theorem G2 {prog : Program} {w : World} {A : Around} {E : Value -> Shared -> Prop} {s : Shared} {id : String} {b : Builtin} {args : List Value} {kw : List (Str × Value)} {Q : Value -> Shared -> Prop} (hk : builtinKind id = none) (hp : plainId id = true)
 (hb : entryFor table id = some b) (ha : argsOk id ⟨args, kw⟩)
 (hc : wpAny (model prog w) A.in1 (b ⟨args, kw⟩) (fun fin s' => match fin with
   | .done f => (match (Except.ok f : Result) with | .ok (.ret v) => Q v s' | .ok _ => False | .error e => E e s')
   | .again c' => c'.quiet = true /\ codeAny (model prog w) A c' (fun r s' => match r with | .ok (.ret v) => Q v s' | .ok _ => False | .error e => E e s') s') E s) :
 wpAny (model prog w) A (call (.builtin id) args kw) Q E s := by
 refine wpAny_call (codeAny_call_builtin hp hb ?_)
 simp only [checkBuiltinCall, hk]
 cases hsig : Manifest.signature? id with
 | none => exact wpAny_pure hc
 | some sig =>
  have tH : Bind.checkArgs id sig ⟨args, kw⟩ = pure () := by simpa only [argsOk, hsig] using ha
  simp only [tH]
  exact wpAny_pure hc
theorem Ot {prog : Program} {w : World} {A : Around} {R : Result -> Shared -> Prop} {I S : Addr} {fp wr : List Addr} {n : Nat} {P : Nat -> Value -> Prop} {St : Nat -> Heap -> Prop} {bt : Nat -> Nat -> Bool} {kw : List (Str × Value)}
 (W : Walks prog w A.in1 I fp wr n P St) (j8 : CmpOf prog w A.in1 .Gt P bt) (hS : S ∉ fp) : ∀ (k j : Nat) (s : Shared) (vb : Value) (c : Nat), k + (j + 1) = n -> St (j + 1) s.heap -> P (argBest bt j) vb ->
  s.heap.get? S = some { cls := .type "list", dict := none, data := .seq #[vb, vb] c, slots := #[] } ->
  (∀ v h' tk, P (argBest bt (n - 1)) v -> (∀ b o, b ∉ wr -> b ≠ S -> s.heap.get? b = some o -> h'.get? b = some o) -> R (.ok (.ret v)) { s with heap := h', toks := tk }) ->
  codeAny (model prog w) A (.builtin "max.loop" ⟨[.ref I, .none, .ref S], kw⟩) R s := by
 have nS : S ∉ wr := fun z => hS (W.sub _ z)
 have nm : (toString "max" ++ toString ".loop" : String) = "max.loop" := by decide
 intro k
 induction k with
 | zero =>
  intro j s vb c e st pb oS fin
  have e' : j + 1 = n := by walk_at "om"
  refine codeAny_builtin PySem.F.entry_max_loop ?_
  rw [Around.under_plainId PySem.F.plain_max_loop _]
  show wpAny _ A.in1 (seqItems? (.ref S) >>= _) _ _ s
  refine wpAny_bind (wpAny_seqItems oS rfl ?_)
  show wpAny _ A.in1 (tryCatch (pyNext (.ref I)) _ >>= _) _ _ s
  refine wpAny_bind (wpAny_tryCatch (W.done s _ _ (e' ▸ st) fun h1 tk kp => ?_))
  have bS := kp S _ nS oS
  show wpAny _ A.in1 (updateSeq S (fun _ => #[]) >>= _) _ _ _
  refine wpAny_bind ?_
  refine wpAny_updateSeq bS rfl (wpAny_bind (wpAny_letGo (wpAny_pure ?_)))
  exact fin vb _ tk (by rw [<- e']; exact pb) fun b o hw hb q => (Heap.get?_update_other _ _ (Ne.symm hb)).trans (kp b o hw q)
 | succ k ih =>
  intro j s vb c e st pb oS fin
  have lt : j + 1 < n := by walk_at "om"
  refine codeAny_builtin PySem.F.entry_max_loop ?_
  rw [Around.under_plainId PySem.F.plain_max_loop _]
  show wpAny _ A.in1 (seqItems? (.ref S) >>= _) _ _ s
  refine wpAny_bind (wpAny_seqItems oS rfl ?_)
  show wpAny _ A.in1 (tryCatch (pyNext (.ref I)) _ >>= _) _ _ s
  refine wpAny_bind (wpAny_tryCatch (W.item (j + 1) s _ _ lt st fun v h1 tk pv dM kp => ?_))
  have bS := kp S _ nS oS
  show wpAny _ A.in1 (tryCatch (holding [v, v] (richCompare .Gt v vb >>= _)) _ >>= _) _ _ _
  refine wpAny_bind (wpAny_tryCatch (wpAny_holding (wpAny_bind (j8 (j + 1) (argBest bt j) v vb _ _ _ pv pb ?_))))
  refine wpAny_bind (wpAny_holding (wpAny_truthy_bool ?_))
  refine wpAny_bind (wpAny_letGo (wpAny_pure ?_))
  cases hb : bt (j + 1) (argBest bt j) with
  | true =>
   simp only [if_true]
   refine wpAny_bind ?_
   refine wpAny_updateSeq bS rfl (wpAny_bind (wpAny_letGo ?_))
   rw [nm]
   refine wpAny_pure ⟨plainId_quiet PySem.F.plain_max_loop _, ih (j + 1) _ v _ (by walk_at "om") (W.frame _ _ _ dM fun b hf o q => ?_) (by simp only [argBest, hb, if_true]; exact pv) (Heap.get?_update_self _ bS rfl) fun v2 h2 ft p2 k2 => ?_⟩
   ·exact (Heap.get?_update_other _ _ (fun z : S = b => hS (by rw [z]; exact hf))).trans q
   ·exact fin v2 h2 ft p2 fun b o hw cO q => k2 b o hw cO ((Heap.get?_update_other _ _ (Ne.symm cO)).trans (kp b o hw q))
  | false =>
   simp only [Bool.false_eq_true, if_false]
   refine wpAny_bind (wpAny_letGo ?_)
   rw [nm]
   refine wpAny_pure ⟨plainId_quiet PySem.F.plain_max_loop _, ih (j + 1) _ vb c (by walk_at "om") dM (by simp only [argBest, hb, Bool.false_eq_true, if_false]; exact pb) bS fun v2 h2 ft p2 k2 => ?_⟩
   exact fin v2 h2 ft p2 fun b o hw cO q => k2 b o hw cO (kp b o hw q)
theorem Ou (a d : Value) : argsOk "max" ⟨[a], [("default", d)]⟩ := by unfold argsOk; kernel_rfl
theorem Ov {prog : Program} {w : World} {A : Around} {E : Value -> Shared -> Prop} {s : Shared} {l : Addr} {xs : Array (Int × Tok)} {d : Value} {Q : Value -> Shared -> Prop} (hh : A.handled = none) (hl : s.heap.IsList l (intItems xs))
 (h0 : xs.size = 0 -> ∀ h' tk, (∀ b o, s.heap.get? b = some o -> h'.get? b = some o) -> Q d { s with heap := h', toks := tk })
 (h1 : 0 < xs.size -> ∀ v h' tk, (intItems xs)[argBest (fun i j => decide (numAt xs i > numAt xs j)) (xs.size - 1)]? = some v -> (∀ b o, s.heap.get? b = some o -> h'.get? b = some o) -> Q v { s with heap := h', toks := tk }) :
 wpAny (model prog w) A (call (.builtin "max") [.ref l] [("default", d)]) Q E s := by
 have nm : (toString "max" ++ toString ".loop" : String) = "max.loop" := by decide
 refine G2 PySem.F.kind_max PySem.F.plain_max PySem.F.entry_max (Ou _ _) ?_
 show wpAny _ A.in1 (Builtin.Builtins.bindParams "max" ["key", "default"] 0 ⟨[], [("default", d)]⟩ >>= _) _ _ s
 refine wpAny_bind (wpAny_of_eq (show Builtin.Builtins.bindParams "max" ["key", "default"] 0 ⟨[], [("default", d)]⟩ = pure [none, some d] from rfl) ?_)
 refine wpAny_bind (wpAny_pure ?_)
 refine wpAny_bind (iter_intList hl fun s2 e2 st dD zf => ?_)
 subst e2
 refine wpAny_bind (wpAny_newObj_type ?_)
 have W := Walks.list (prog := prog) (w := w) (A := A.in1) hh s.heap.objs.size l zf (intItems xs)
 generalize eP : (s.heap.push { cls := .type "list_iterator", data := .fields #[.ref l, .int 0 0] }) = P2 at st dD ⊢
 have j9 : P2.objs.size ∉ [s.heap.objs.size, l] := fun z => Nat.lt_irrefl _ (dD _ z)
 have up : ∀ b o, s.heap.get? b = some o -> b ≠ P2.objs.size /\ b ∉ [s.heap.objs.size] /\ (P2.push { cls := .type "list", dict := none, data := .seq ([] : List Value).toArray }).get? b = some o := fun b o q => by
  have lt := Heap.lt_size q
  have q2 : P2.get? b = some o := by rw [<- eP]; exact Heap.get?_push_of_some _ q
  refine ⟨Nat.ne_of_lt (Heap.lt_size q2), fun z => ?_, Heap.get?_push_of_some _ q2⟩
  have : b = s.heap.objs.size := by simpa using z
  walk_at "om"
 rw [nm]
 refine wpAny_pure ⟨plainId_quiet PySem.F.plain_max_loop _, ?_⟩
 have oS : (P2.push { cls := .type "list", dict := none, data := .seq ([] : List Value).toArray }).get? P2.objs.size = some { cls := .type "list", dict := none, data := .seq #[] 0, slots := #[] } := Heap.get?_push_size _ rfl
 have bH := W.frame 0 P2 (P2.push { cls := .type "list", dict := none, data := .seq ([] : List Value).toArray }) st fun b _ o q => Heap.get?_push_of_some _ q
 have nS : P2.objs.size ∉ [s.heap.objs.size] := fun z => j9 (by simp at z; simp [z])
 by_cases hz : xs.size = 0
 ·have qo : (P2.push { cls := .type "list", dict := none, data := .seq ([] : List Value).toArray }).IsListIter s.heap.objs.size l (intItems xs).size /\ (P2.push { cls := .type "list", dict := none, data := .seq ([] : List Value).toArray }).IsList l (intItems xs) := by
   have : (intItems xs).size = 0 := by simpa [intItems] using hz
   rw [this]; exact bH
  refine codeAny_builtin PySem.F.entry_max_loop ?_
  rw [Around.under_plainId PySem.F.plain_max_loop _]
  show wpAny _ A.in1 (seqItems? (.ref P2.objs.size) >>= _) _ _ _
  refine wpAny_bind (wpAny_seqItems oS rfl ?_)
  show wpAny _ A.in1 (tryCatch (pyNext (.ref s.heap.objs.size)) _ >>= _) _ _ _
  refine wpAny_bind (wpAny_tryCatch (W.done _ _ _ qo fun h2 tk kp => ?_))
  refine wpAny_bind (wpAny_rule (wpAny_pure ?_))
  exact h0 hz h2 tk fun b o q => kp b o (up b o q).2.1 (up b o q).2.2
 ·have hp : 0 < xs.size := by walk_at "om"
  have hn : 0 < (intItems xs).size := by simpa [intItems] using hp
  refine codeAny_builtin PySem.F.entry_max_loop ?_
  rw [Around.under_plainId PySem.F.plain_max_loop _]
  show wpAny _ A.in1 (seqItems? (.ref P2.objs.size) >>= _) _ _ _
  refine wpAny_bind (wpAny_seqItems oS rfl ?_)
  show wpAny _ A.in1 (tryCatch (pyNext (.ref s.heap.objs.size)) _ >>= _) _ _ _
  refine wpAny_bind (wpAny_tryCatch (W.item 0 _ _ _ hn bH fun v h2 tk pv dM kp => ?_))
  have bS := kp _ _ nS oS
  show wpAny _ A.in1 (updateSeq P2.objs.size (fun _ => #[v, v]) >>= _) _ _ _
  refine wpAny_bind ?_
  refine wpAny_updateSeq bS rfl ?_
  rw [nm]
  refine wpAny_pure ⟨plainId_quiet PySem.F.plain_max_loop _, Ot W (CmpOf.ints_gt (numAt xs) (fun _ _ => intItems_at)) j9 ((intItems xs).size - 1) 0 _ v _ (by walk_at "om") (W.frame _ _ _ dM fun b hf o q => ?_) pv (Heap.get?_update_self _ bS rfl) fun v2 h3 zg p3 k3 => ?_⟩
  ·exact (Heap.get?_update_other _ _ (fun z : P2.objs.size = b => j9 (by rw [z]; exact hf))).trans q
  ·refine h1 hp v2 h3 zg (by simpa [intItems] using p3) fun b o q => ?_
   exact k3 b o (up b o q).2.1 (up b o q).1 ((Heap.get?_update_other _ _ (Ne.symm (up b o q).1)).trans (kp b o (up b o q).2.1 (up b o q).2.2))
theorem Ow {prog : Program} {w : World} {A : Around} {R : Result -> Shared -> Prop} {I S : Addr} {fp wr : List Addr} {n : Nat} {P : Nat -> Value -> Prop} {St : Nat -> Heap -> Prop} {bt : Nat -> Nat -> Bool} {kw : List (Str × Value)}
 (W : Walks prog w A.in1 I fp wr n P St) (j8 : CmpOf prog w A.in1 .Lt P bt) (hS : S ∉ fp) : ∀ (k j : Nat) (s : Shared) (vb : Value) (c : Nat), k + (j + 1) = n -> St (j + 1) s.heap -> P (argBest bt j) vb ->
  s.heap.get? S = some { cls := .type "list", dict := none, data := .seq #[vb, vb] c, slots := #[] } ->
  (∀ v h' tk, P (argBest bt (n - 1)) v -> (∀ b o, b ∉ wr -> b ≠ S -> s.heap.get? b = some o -> h'.get? b = some o) -> R (.ok (.ret v)) { s with heap := h', toks := tk }) ->
  codeAny (model prog w) A (.builtin "min.loop" ⟨[.ref I, .none, .ref S], kw⟩) R s := by
 have nS : S ∉ wr := fun z => hS (W.sub _ z)
 have nm : (toString "min" ++ toString ".loop" : String) = "min.loop" := by decide
 intro k
 induction k with
 | zero =>
  intro j s vb c e st pb oS fin
  have e' : j + 1 = n := by walk_at "om"
  refine codeAny_builtin PySem.F.entry_min_loop ?_
  rw [Around.under_plainId PySem.F.plain_min_loop _]
  show wpAny _ A.in1 (seqItems? (.ref S) >>= _) _ _ s
  refine wpAny_bind (wpAny_seqItems oS rfl ?_)
  show wpAny _ A.in1 (tryCatch (pyNext (.ref I)) _ >>= _) _ _ s
  refine wpAny_bind (wpAny_tryCatch (W.done s _ _ (e' ▸ st) fun h1 tk kp => ?_))
  have bS := kp S _ nS oS
  show wpAny _ A.in1 (updateSeq S (fun _ => #[]) >>= _) _ _ _
  refine wpAny_bind ?_
  refine wpAny_updateSeq bS rfl (wpAny_bind (wpAny_letGo (wpAny_pure ?_)))
  exact fin vb _ tk (by rw [<- e']; exact pb) fun b o hw hb q => (Heap.get?_update_other _ _ (Ne.symm hb)).trans (kp b o hw q)
 | succ k ih =>
  intro j s vb c e st pb oS fin
  have lt : j + 1 < n := by walk_at "om"
  refine codeAny_builtin PySem.F.entry_min_loop ?_
  rw [Around.under_plainId PySem.F.plain_min_loop _]
  show wpAny _ A.in1 (seqItems? (.ref S) >>= _) _ _ s
  refine wpAny_bind (wpAny_seqItems oS rfl ?_)
  show wpAny _ A.in1 (tryCatch (pyNext (.ref I)) _ >>= _) _ _ s
  refine wpAny_bind (wpAny_tryCatch (W.item (j + 1) s _ _ lt st fun v h1 tk pv dM kp => ?_))
  have bS := kp S _ nS oS
  show wpAny _ A.in1 (tryCatch (holding [v, v] (richCompare .Lt v vb >>= _)) _ >>= _) _ _ _
  refine wpAny_bind (wpAny_tryCatch (wpAny_holding (wpAny_bind (j8 (j + 1) (argBest bt j) v vb _ _ _ pv pb ?_))))
  refine wpAny_bind (wpAny_holding (wpAny_truthy_bool ?_))
  refine wpAny_bind (wpAny_letGo (wpAny_pure ?_))
  cases hb : bt (j + 1) (argBest bt j) with
  | true =>
   simp only [if_true]
   refine wpAny_bind ?_
   refine wpAny_updateSeq bS rfl (wpAny_bind (wpAny_letGo ?_))
   rw [nm]
   refine wpAny_pure ⟨plainId_quiet PySem.F.plain_min_loop _, ih (j + 1) _ v _ (by walk_at "om") (W.frame _ _ _ dM fun b hf o q => ?_) (by simp only [argBest, hb, if_true]; exact pv) (Heap.get?_update_self _ bS rfl) fun v2 h2 ft p2 k2 => ?_⟩
   ·exact (Heap.get?_update_other _ _ (fun z : S = b => hS (by rw [z]; exact hf))).trans q
   ·exact fin v2 h2 ft p2 fun b o hw cO q => k2 b o hw cO ((Heap.get?_update_other _ _ (Ne.symm cO)).trans (kp b o hw q))
  | false =>
   simp only [Bool.false_eq_true, if_false]
   refine wpAny_bind (wpAny_letGo ?_)
   rw [nm]
   refine wpAny_pure ⟨plainId_quiet PySem.F.plain_min_loop _, ih (j + 1) _ vb c (by walk_at "om") dM (by simp only [argBest, hb, Bool.false_eq_true, if_false]; exact pb) bS fun v2 h2 ft p2 k2 => ?_⟩
   exact fin v2 h2 ft p2 fun b o hw cO q => k2 b o hw cO (kp b o hw q)
theorem Ox (a d : Value) : argsOk "min" ⟨[a], [("default", d)]⟩ := by unfold argsOk; kernel_rfl
theorem Oy {prog : Program} {w : World} {A : Around} {E : Value -> Shared -> Prop} {s : Shared} {l : Addr} {xs : Array (Int × Tok)} {d : Value} {Q : Value -> Shared -> Prop} (hh : A.handled = none) (hl : s.heap.IsList l (intItems xs))
 (h0 : xs.size = 0 -> ∀ h' tk, (∀ b o, s.heap.get? b = some o -> h'.get? b = some o) -> Q d { s with heap := h', toks := tk })
 (h1 : 0 < xs.size -> ∀ v h' tk, (intItems xs)[argBest (fun i j => decide (numAt xs i < numAt xs j)) (xs.size - 1)]? = some v -> (∀ b o, s.heap.get? b = some o -> h'.get? b = some o) -> Q v { s with heap := h', toks := tk }) :
 wpAny (model prog w) A (call (.builtin "min") [.ref l] [("default", d)]) Q E s := by
 have nm : (toString "min" ++ toString ".loop" : String) = "min.loop" := by decide
 refine G2 PySem.F.kind_min PySem.F.plain_min PySem.F.entry_min (Ox _ _) ?_
 show wpAny _ A.in1 (Builtin.Builtins.bindParams "min" ["key", "default"] 0 ⟨[], [("default", d)]⟩ >>= _) _ _ s
 refine wpAny_bind (wpAny_of_eq (show Builtin.Builtins.bindParams "min" ["key", "default"] 0 ⟨[], [("default", d)]⟩ = pure [none, some d] from rfl) ?_)
 refine wpAny_bind (wpAny_pure ?_)
 refine wpAny_bind (iter_intList hl fun s2 e2 st dD zf => ?_)
 subst e2
 refine wpAny_bind (wpAny_newObj_type ?_)
 have W := Walks.list (prog := prog) (w := w) (A := A.in1) hh s.heap.objs.size l zf (intItems xs)
 generalize eP : (s.heap.push { cls := .type "list_iterator", data := .fields #[.ref l, .int 0 0] }) = P2 at st dD ⊢
 have j9 : P2.objs.size ∉ [s.heap.objs.size, l] := fun z => Nat.lt_irrefl _ (dD _ z)
 have up : ∀ b o, s.heap.get? b = some o -> b ≠ P2.objs.size /\ b ∉ [s.heap.objs.size] /\ (P2.push { cls := .type "list", dict := none, data := .seq ([] : List Value).toArray }).get? b = some o := fun b o q => by
  have lt := Heap.lt_size q
  have q2 : P2.get? b = some o := by rw [<- eP]; exact Heap.get?_push_of_some _ q
  refine ⟨Nat.ne_of_lt (Heap.lt_size q2), fun z => ?_, Heap.get?_push_of_some _ q2⟩
  have : b = s.heap.objs.size := by simpa using z
  walk_at "om"
 rw [nm]
 refine wpAny_pure ⟨plainId_quiet PySem.F.plain_min_loop _, ?_⟩
 have oS : (P2.push { cls := .type "list", dict := none, data := .seq ([] : List Value).toArray }).get? P2.objs.size = some { cls := .type "list", dict := none, data := .seq #[] 0, slots := #[] } := Heap.get?_push_size _ rfl
 have bH := W.frame 0 P2 (P2.push { cls := .type "list", dict := none, data := .seq ([] : List Value).toArray }) st fun b _ o q => Heap.get?_push_of_some _ q
 have nS : P2.objs.size ∉ [s.heap.objs.size] := fun z => j9 (by simp at z; simp [z])
 by_cases hz : xs.size = 0
 ·have qo : (P2.push { cls := .type "list", dict := none, data := .seq ([] : List Value).toArray }).IsListIter s.heap.objs.size l (intItems xs).size /\ (P2.push { cls := .type "list", dict := none, data := .seq ([] : List Value).toArray }).IsList l (intItems xs) := by
   have : (intItems xs).size = 0 := by simpa [intItems] using hz
   rw [this]; exact bH
  refine codeAny_builtin PySem.F.entry_min_loop ?_
  rw [Around.under_plainId PySem.F.plain_min_loop _]
  show wpAny _ A.in1 (seqItems? (.ref P2.objs.size) >>= _) _ _ _
  refine wpAny_bind (wpAny_seqItems oS rfl ?_)
  show wpAny _ A.in1 (tryCatch (pyNext (.ref s.heap.objs.size)) _ >>= _) _ _ _
  refine wpAny_bind (wpAny_tryCatch (W.done _ _ _ qo fun h2 tk kp => ?_))
  refine wpAny_bind (wpAny_rule (wpAny_pure ?_))
  exact h0 hz h2 tk fun b o q => kp b o (up b o q).2.1 (up b o q).2.2
 ·have hp : 0 < xs.size := by walk_at "om"
  have hn : 0 < (intItems xs).size := by simpa [intItems] using hp
  refine codeAny_builtin PySem.F.entry_min_loop ?_
  rw [Around.under_plainId PySem.F.plain_min_loop _]
  show wpAny _ A.in1 (seqItems? (.ref P2.objs.size) >>= _) _ _ _
  refine wpAny_bind (wpAny_seqItems oS rfl ?_)
  show wpAny _ A.in1 (tryCatch (pyNext (.ref s.heap.objs.size)) _ >>= _) _ _ _
  refine wpAny_bind (wpAny_tryCatch (W.item 0 _ _ _ hn bH fun v h2 tk pv dM kp => ?_))
  have bS := kp _ _ nS oS
  show wpAny _ A.in1 (updateSeq P2.objs.size (fun _ => #[v, v]) >>= _) _ _ _
  refine wpAny_bind ?_
  refine wpAny_updateSeq bS rfl ?_
  rw [nm]
  refine wpAny_pure ⟨plainId_quiet PySem.F.plain_min_loop _, Ow W (CmpOf.ints_lt (numAt xs) (fun _ _ => intItems_at)) j9 ((intItems xs).size - 1) 0 _ v _ (by walk_at "om") (W.frame _ _ _ dM fun b hf o q => ?_) pv (Heap.get?_update_self _ bS rfl) fun v2 h3 zg p3 k3 => ?_⟩
  ·exact (Heap.get?_update_other _ _ (fun z : P2.objs.size = b => j9 (by rw [z]; exact hf))).trans q
  ·refine h1 hp v2 h3 zg (by simpa [intItems] using p3) fun b o q => ?_
   exact k3 b o (up b o q).2.1 (up b o q).1 ((Heap.get?_update_other _ _ (Ne.symm (up b o q).1)).trans (kp b o (up b o q).2.1 (up b o q).2.2))
noncomputable def ia : List Int -> Int
 | [] => 0
 | x :: r => r.foldl (fun b y => if y > b then y else b) x
noncomputable def ib : List Int -> Int
 | [] => 0
 | x :: r => r.foldl (fun b y => if y < b then y else b) x
theorem G3 : ∀ (r : List Int) (b : Int), b <= r.foldl (fun b y => if y > b then y else b) b /\ (∀ y ∈ r, y <= r.foldl (fun b y => if y > b then y else b) b) /\ (r.foldl (fun b y => if y > b then y else b) b = b ∨ r.foldl (fun b y => if y > b then y else b) b ∈ r)
 | [], b => ⟨Int.le_refl _, fun _ z => (nomatch z), .inl rfl⟩
 | x :: r, b => by
  simp only [List.foldl_cons]
  obtain ⟨h1, h2, h3⟩ := G3 r (if x > b then x else b)
  refine ⟨?_, fun y hy => ?_, ?_⟩
  ·refine Int.le_trans ?_ h1; split <;> omega
  ·rcases List.mem_cons.mp hy with rfl | hy
   ·refine Int.le_trans ?_ h1; split <;> omega
   ·exact h2 y hy
  ·rcases h3 with h3 | h3
   ·rw [h3]; split
    ·right; simp
    ·left; rfl
   ·right; exact List.mem_cons_of_mem _ h3
theorem G4 : ∀ (r : List Int) (b : Int), r.foldl (fun b y => if y < b then y else b) b <= b /\ (∀ y ∈ r, r.foldl (fun b y => if y < b then y else b) b <= y) /\ (r.foldl (fun b y => if y < b then y else b) b = b ∨ r.foldl (fun b y => if y < b then y else b) b ∈ r)
 | [], b => ⟨Int.le_refl _, fun _ z => (nomatch z), .inl rfl⟩
 | x :: r, b => by
  simp only [List.foldl_cons]
  obtain ⟨h1, h2, h3⟩ := G4 r (if x < b then x else b)
  refine ⟨?_, fun y hy => ?_, ?_⟩
  ·refine Int.le_trans h1 ?_; split <;> omega
  ·rcases List.mem_cons.mp hy with rfl | hy
   ·refine Int.le_trans h1 ?_; split <;> omega
   ·exact h2 y hy
  ·rcases h3 with h3 | h3
   ·rw [h3]; split
    ·right; simp
    ·left; rfl
   ·right; exact List.mem_cons_of_mem _ h3
theorem Oz {ns : List Int} (h : ns ≠ []) : ia ns ∈ ns /\ ∀ y ∈ ns, y <= ia ns := by
 cases ns with
 | nil => exact absurd rfl h
 | cons x r =>
  obtain ⟨h1, h2, h3⟩ := G3 r x
  refine ⟨?_, fun y hy => ?_⟩
  ·rcases h3 with h3 | h3
   ·show r.foldl _ x ∈ _
    rw [h3]; exact .head _
   ·exact .tail _ h3
  ·rcases List.mem_cons.mp hy with rfl | hy
   ·exact h1
   ·exact h2 y hy
theorem OA {ns : List Int} (h : ns ≠ []) : ib ns ∈ ns /\ ∀ y ∈ ns, ib ns <= y := by
 cases ns with
 | nil => exact absurd rfl h
 | cons x r =>
  obtain ⟨h1, h2, h3⟩ := G4 r x
  refine ⟨?_, fun y hy => ?_⟩
  ·rcases h3 with h3 | h3
   ·show r.foldl _ x ∈ _
    rw [h3]; exact .head _
   ·exact .tail _ h3
  ·rcases List.mem_cons.mp hy with rfl | hy
   ·exact h1
   ·exact h2 y hy
theorem zh : ∀ {ns : List Int} {ag : List Value}, Vals (ns.map V.int) ag -> ∃ xs : Array (Int × Tok), ag.toArray = intItems xs /\ xs.toList.map (·.1) = ns
 | [], _, .nil => ⟨#[], by simp [intItems], rfl⟩
 | n :: ns, _, .cons (l₂ := ag) r t => by
  obtain ⟨xs, e1, e2⟩ := zh (ns := ns) t
  obtain ⟨tk, rfl⟩ := r
  refine ⟨((n, tk) :: xs.toList).toArray, ?_, ?_⟩
  ·have : ag = xs.toList.map (fun p => Value.int p.1 p.2) := by
    have := congrArg Array.toList e1
    simpa [intItems] using this
   simp [intItems, this]
  ·simp [e2]
theorem G5 {xs : Array (Int × Tok)} {ns : List Int} (e : xs.toList.map (·.1) = ns) {i : Nat} (hi : i < xs.size) : numAt xs i ∈ ns /\ numAt xs i = ns.getD i 0 := by
 subst e
 unfold numAt
 rw [Array.getElem?_eq_getElem hi]
 refine ⟨List.mem_map.mpr ⟨xs[i], by simp, rfl⟩, ?_⟩
 simp [hi]
theorem G6 {xs : Array (Int × Tok)} {ns : List Int} (e : xs.toList.map (·.1) = ns) {y : Int} (hy : y ∈ ns) : ∃ i, i < xs.size /\ numAt xs i = y := by
 subst e
 obtain ⟨p, hp, rfl⟩ := List.mem_map.mp hy
 obtain ⟨i, hi, e⟩ := List.mem_iff_getElem.mp hp
 refine ⟨i, by simpa using hi, ?_⟩
 unfold numAt
 have eS : i < xs.size := by simpa using hi
 rw [Array.getElem?_eq_getElem eS]
 have : xs[i] = p := by simpa using e
 rw [this]; rfl
theorem OB {xs : Array (Int × Tok)} {ns : List Int} (e : xs.toList.map (·.1) = ns) (h : 0 < xs.size) : numAt xs (argBest (fun i j => decide (numAt xs i > numAt xs j)) (xs.size - 1)) = ia ns := by
 obtain ⟨h1, h2⟩ := argBest_gt (numAt xs) (xs.size - 1)
 have bW : ns ≠ [] := by
  intro z; subst z
  have q := congrArg List.length e
  rw [List.length_map, Array.length_toList, List.length_nil] at q
  omega
 obtain ⟨m1, m2⟩ := Oz bW
 refine Int.le_antisymm (m2 _ (G5 e (by omega)).1) ?_
 obtain ⟨i, hi, ei⟩ := G6 e m1
 rw [<- ei]; exact h2 i (by omega)
theorem OC {xs : Array (Int × Tok)} {ns : List Int} (e : xs.toList.map (·.1) = ns) (h : 0 < xs.size) : numAt xs (argBest (fun i j => decide (numAt xs i < numAt xs j)) (xs.size - 1)) = ib ns := by
 obtain ⟨h1, h2⟩ := argBest_lt (numAt xs) (xs.size - 1)
 have bW : ns ≠ [] := by
  intro z; subst z
  have q := congrArg List.length e
  rw [List.length_map, Array.length_toList, List.length_nil] at q
  omega
 obtain ⟨m1, m2⟩ := OA bW
 refine Int.le_antisymm ?_ (m2 _ (G5 e (by omega)).1)
 obtain ⟨i, hi, ei⟩ := G6 e m1
 rw [<- ei]; exact h2 i (by omega)
noncomputable def zi (R : V -> Hp -> Prop) : List V -> Hp -> Prop
 | [x], H => R x H
 | _, _ => False
theorem G7 {R : V -> Hp -> Prop} : ∀ {vs : List V} {H : Hp}, zi R vs H -> ∃ x, vs = [x] /\ R x H
 | [x], _, h => ⟨x, rfl, h⟩
section
variable {X : Cx} {e d : Expr} {te td : TE} {p pos kp : Pos}
noncomputable def ic (f : List Int -> Int) : List Int -> V -> V
 | [], y => y
 | n :: ns, _ => .int (f (n :: ns))
theorem G8 {f : List Int -> Int} {ns : List Int} {y : V} (h : ns ≠ []) : ic f ns y = .int (f ns) := by
 cases ns with
 | nil => exact absurd rfl h
 | cons _ _ => rfl
noncomputable def lO (K : PySem.W.Frag) (f : List Int -> Int) (te td : TE) : TE := fun σ H Q => te σ H fun x H1 => td σ H1 fun y H2 => ∃ a ns, x = .ref a /\ ah K H2 a (ns.map V.int) /\ Q (ic f ns y) H2
theorem OD (hc : X.calm = true) (hg : Gl X "max") (hm : X.mg "max" = none) (he : PE X e te) (hd : PE X d td)
 (hs : starEach [e] X.env = (false, eval e X.env) :: starEach [] X.env := by rfl) (hq : backTo pos (starEach [e] X.env) = (false, eval e X.env) :: backTo pos (starEach [] X.env) := by rfl) :
 PE X (.Call (.Name "max" p) [e] [⟨some "default", d, kp⟩] pos) (lO X.K ia te td) := by
 intro pins s σ H Q I h
 refine wpAny_Call_Name_kw (dX I hg hm GI ?_ (by decide))
 refine callWith_kw (aB ((aa he af hs) pos pins s σ H (zi fun x H1 => td σ H1 fun y H2 => ∃ (a : Addr) (ns : List Int), x = .ref a /\ ah X.K H2 a (ns.map V.int) /\ Q (ic ia ns y) H2) I h) fun us s1 ⟨vs, H1, I1, r, q⟩ => ?_) hq (by rw [hs]; rfl)
 ·obtain ⟨x, rfl, q⟩ := G7 q
  obtain ⟨u, rfl, ru⟩ := vals1 r
  refine kws_cons (aB (hd pins s1 σ H1 _ I1 q) fun w s2 ⟨y, H2, I2, ry, a, ns, ex, hS, q1⟩ => kws_nil ?_)
  subst ex
  cases ru
  obtain ⟨ag, rv, hp, _⟩ := I2.list hS
  obtain ⟨xs, e1, e2⟩ := zh rv
  obtain ⟨o, n, ho, cu, _, hdt⟩ := hp
  have hl : s2.heap.IsList a (intItems xs) := ⟨o, ho, cu, n, by rw [hdt, e1]⟩
  have len : xs.size = ns.length := by rw [<- e2, List.length_map]; simp
  show wpAny _ X.A (call (.builtin "max") [.ref a] [("default", w)]) _ _ s2
  refine Ov (I2.ok.hd hc) hl (fun hz h' tk hk => ⟨y, H2, I2.kept hk, ry, ?_⟩) fun hp v h' tk hv hk => ⟨.int (ia ns), H2, I2.kept hk, ?_, ?_⟩
  ·have z : ns = [] := List.length_eq_zero_iff.mp (by walk_at "om")
   rw [z] at q1
   exact q1
  ·obtain ⟨t, rfl⟩ := intItems_at hv
   exact ⟨t, by rw [OB e2 hp]⟩
  ·rw [G8 (fun z => by subst z; rw [List.length_nil] at len; omega)] at q1
   exact q1
theorem OE (hc : X.calm = true) (hg : Gl X "min") (hm : X.mg "min" = none) (he : PE X e te) (hd : PE X d td)
 (hs : starEach [e] X.env = (false, eval e X.env) :: starEach [] X.env := by rfl) (hq : backTo pos (starEach [e] X.env) = (false, eval e X.env) :: backTo pos (starEach [] X.env) := by rfl) :
 PE X (.Call (.Name "min" p) [e] [⟨some "default", d, kp⟩] pos) (lO X.K ib te td) := by
 intro pins s σ H Q I h
 refine wpAny_Call_Name_kw (dX I hg hm lK ?_ (by decide))
 refine callWith_kw (aB ((aa he af hs) pos pins s σ H (zi fun x H1 => td σ H1 fun y H2 => ∃ (a : Addr) (ns : List Int), x = .ref a /\ ah X.K H2 a (ns.map V.int) /\ Q (ic ib ns y) H2) I h) fun us s1 ⟨vs, H1, I1, r, q⟩ => ?_) hq (by rw [hs]; rfl)
 ·obtain ⟨x, rfl, q⟩ := G7 q
  obtain ⟨u, rfl, ru⟩ := vals1 r
  refine kws_cons (aB (hd pins s1 σ H1 _ I1 q) fun w s2 ⟨y, H2, I2, ry, a, ns, ex, hS, q1⟩ => kws_nil ?_)
  subst ex
  cases ru
  obtain ⟨ag, rv, hp, _⟩ := I2.list hS
  obtain ⟨xs, e1, e2⟩ := zh rv
  obtain ⟨o, n, ho, cu, _, hdt⟩ := hp
  have hl : s2.heap.IsList a (intItems xs) := ⟨o, ho, cu, n, by rw [hdt, e1]⟩
  have len : xs.size = ns.length := by rw [<- e2, List.length_map]; simp
  show wpAny _ X.A (call (.builtin "min") [.ref a] [("default", w)]) _ _ s2
  refine Oy (I2.ok.hd hc) hl (fun hz h' tk hk => ⟨y, H2, I2.kept hk, ry, ?_⟩) fun hp v h' tk hv hk => ⟨.int (ib ns), H2, I2.kept hk, ?_, ?_⟩
  ·have z : ns = [] := List.length_eq_zero_iff.mp (by walk_at "om")
   rw [z] at q1
   exact q1
  ·obtain ⟨t, rfl⟩ := intItems_at hv
   exact ⟨t, by rw [OC e2 hp]⟩
  ·rw [G8 (fun z => by subst z; rw [List.length_nil] at len; omega)] at q1
   exact q1
end
end Gz
namespace Gz
open PySem PySem.Spec PyProof.Rows L2
local macro_rules | `(tactic| walk_at "om") => `(tactic| ((try simp only [PySem.Addr] at *); omega))
section
variable {prog : Program} {w : World} {A : Around} {E : Value -> Shared -> Prop} {s : Shared}
end
noncomputable def G9 (sp : Sp) : List V -> List V -> Hp -> (List V -> Hp -> Prop) -> Prop
 | [], ks, H, Q => Q ks H
 | x :: r, ks, H, Q => sp [x] H (fun k H1 => G9 sp r (ks ++ [k]) H1 Q) E0
noncomputable def ie (K : PySem.W.Frag) (H : Hp) : List V -> List (List Int) -> Prop
 | [], [] => True
 | k :: ks, n :: ns => (∃ p, k = .ref p /\ ai K H p (n.map V.int) /\ n ≠ []) /\ ie K H ks ns
 | _, _ => False
theorem ie.len {K : PySem.W.Frag} {H : Hp} : ∀ {ks : List V} {ns : List (List Int)}, ie K H ks ns -> ks.length = ns.length
 | [], [], _ => rfl
 | _ :: _, _ :: _, h => by simp [ie.len h.2]
 | [], _ :: _, h => h.elim
 | _ :: _, [], h => h.elim
section
variable {X : Cx} {pins : List (Addr × Obj)} {σ : L2.St} {H : Hp} {s : Shared}
theorem ie.cb (I : Inv X pins σ H s) : ∀ {ks : List V} {ns : List (List Int)} {us : List Value}, ie X.K H ks ns -> Vals ks us -> ∃ fs, PySem.W.KatTups s.heap us fs /\ fs.length = us.length /\ ∀ v ∈ fs, ∃ i t, v = .int i t
 | [], [], _, _, .nil => ⟨[], trivial, rfl, fun _ z => (nomatch z)⟩
 | k :: ks, n :: ns, _, h, .cons r rs => by
  obtain ⟨⟨p, rfl, hp, hn⟩, h⟩ := h
  cases r
  obtain ⟨fs, a, b, c⟩ := ie.cb I h rs
  obtain ⟨ag, rv, ⟨o, ho, hc, m, hd⟩, _⟩ := I.tuple hp
  cases n with
  | nil => exact absurd rfl hn
  | cons z zs =>
   cases rv with
   | cons r1 r2 =>
    obtain ⟨t, rfl⟩ := r1
    refine ⟨.int z t :: fs, PySem.W.KatTups.cons ho hc hd (by simp) a, by simp [b], fun v hv => ?_⟩
    rcases List.mem_cons.mp hv with rfl | hv
    ·exact ⟨_, _, rfl⟩
    ·exact c v hv
 | [], _ :: _, _, h, _ => h.elim
 | _ :: _, [], _, h, _ => h.elim
noncomputable def OF (eT : List (List Int)) (i j : Nat) : Bool := HT.lexLt (eT.getD i []) (eT.getD j [])
noncomputable def OG {α : Type} (eT : List (List Int)) (d : α) (as : List α) : List α := (Oq (OF eT) as.length).toList.map fun i => as.getD i d
end
section
variable {X : Cx} {pins : List (Addr × Obj)} {σ : L2.St} {H : Hp} {s : Shared} {CX : cV} {k : Nat} {fa a : Addr} {fd : FuncData} {y : Str} {sp : Sp} {xs : List V} {Q : VK}
noncomputable def OH (K : PySem.W.Frag) (sp : Sp) (x : V) (H1 : Hp) (Q : VK) : Prop := ∃ (a : Addr) (xs : List V), x = .ref a /\ ah K H1 a xs /\ xs.length < 64 /\ G9 sp xs [] H1 fun ks H2 => ∃ eT, ie K H2 ks eT /\ ∀ l, H2 l = none -> Q (.ref l) (upd H2 l (.lst (OG eT .non xs)))
noncomputable def tR (K : PySem.W.Frag) (sp : Sp) (te : TE) : TE := fun σ H Q => te σ H fun x H1 => OH K sp x H1 Q
end
end Gz
namespace Gz
open PySem PySem.Spec PyProof.Rows L2
local macro_rules | `(tactic| walk_at "om") => `(tactic| ((try simp only [PySem.Addr] at *); omega))
inductive gD (X : Cx) (scope : Scope) (cl : List (Str × Addr)) : List Nat -> List Str -> Prop where
 | nil : gD X scope cl [] []
 | cons {j : Nat} {y : Str} {c : Addr} {js : List Nat} {ys : List Str} (hN : X.N[j]? = some y) (hk : X.env.kindOf y = some .cell) (h1 : cl.lookup y = some c) (h2 : X.env.cells.lookup y = some c) (h : gD X scope cl js ys) : gD X scope cl (j :: js) (y :: ys)
inductive ka (X : Cx) : List (Str × Addr) -> Prop where
 | nil : ka X []
 | cons {n : Str} {a : Addr} {r : List (Str × Addr)} (h : X.env.cells.lookup n = some a) (t : ka X r) : ka X ((n, a) :: r)
theorem ka.get {X : Cx} : ∀ {cl : List (Str × Addr)}, ka X cl -> ∀ y c, cl.lookup y = some c -> X.env.cells.lookup y = some c
 | _, .nil, y, c, e => by simp at e
 | _, .cons (n := n) h t, y, c, e => by
  rw [List.lookup_cons] at e
  by_cases hy : (y == n) = true
  ·rw [hy] at e
   have e1 : y = n := by simpa using hy
   cases e
   rw [e1]; exact h
  ·rw [Bool.eq_false_iff.mpr hy] at e
   exact t.get y c e
theorem gD.get {X : Cx} {scope : Scope} {cl : List (Str × Addr)} {σ : L2.St} : ∀ {js : List Nat} {ys : List Str}, gD X scope cl js ys -> ∀ (i : Nat) (y : Str) (v : V), ys[i]? = some y -> (js.map fun j => (σ[j]?).join)[i]? = some (some v) ->
 ∃ (j : Nat) (c : Addr), X.N[j]? = some y /\ σ[j]? = some (some v) /\ X.env.kindOf y = some .cell /\ cl.lookup y = some c /\ X.env.cells.lookup y = some c
 | _, _, .nil, i, y, v, e, _ => by simp at e
 | _, _, .cons (j := j) hN hk h1 h2 h, 0, y, v, e, q => by
  simp at e q
  subst e
  refine ⟨j, _, hN, ?_, hk, h1, h2⟩
  cases z : σ[j]? with
  | none => rw [z] at q; simp at q
  | some o => rw [z] at q; simp at q; rw [q]
 | _, _, .cons hN hk h1 h2 h, i + 1, y, v, e, q => by
  simp only [List.getElem?_cons_succ, List.map_cons] at e q
  exact h.get i y v e q
theorem gD.len {X : Cx} {scope : Scope} {cl : List (Str × Addr)} : ∀ {js : List Nat} {ys : List Str}, gD X scope cl js ys -> js.length = ys.length
 | _, _, .nil => rfl
 | _, _, .cons _ _ _ _ h => by simp [h.len]
noncomputable def bu (X : Cx) (N' : List Str) (scope : Scope) (cl : List (Str × Addr)) (C : Addr) (s2 : Shared) (H2 : Hp) (ex : List Addr) (pn : List (Addr × Obj)) : Cx :=
 { X with N := N', s₀ := s2, H₀ := H2, env := compEnvC scope cl C X.env, outer := X.stack, ex := ex, fn := fun _ => false, pn := pn, xe := fun _ _ => False }
structure cP (X : Cx) (x : Str) (scope : Scope) (cl : List (Str × Addr)) (fr : List Nat) (ys : List Str) : Prop where
 clos : closureFor scope X.env = pure cl
 nocell : (scope.names.all fun p => p.2 != .cell) = true
 kind : scope.kind = .function
 names : (scope.names.all fun p => p.2 != .local || scope.names.lookup p.1 == some .local) = true
 own : scope.names.lookup x = some .local
 kinds : ((relabel scope X.env).names.all fun p => (p.2 != .cell && p.2 != .free) || (cl.lookup p.1).isSome) = true
 cls : ka X cl
 aT : gD X scope cl fr ys
 nd : (x :: ys).Nodup
 kfr : (ys.all fun y => (relabel scope X.env).names.lookup y == some .cell) = true
noncomputable def kc (X : Cx) (ifs : List Expr) (t : TT) : Prop :=
 ∀ (pins : List (Addr × Obj)) (s : Shared) (σ : L2.St) (H : Hp) (Q : Bool -> Hp -> Prop), Inv X pins σ H s -> t σ H Q ->
  wpAny (model X.prog X.w) X.A (forIn ifs true fun c r => if r = true then do let ok <- isTrue c X.env (eval c X.env); pure (ForInStep.yield ok) else pure (ForInStep.yield r)) (TP X pins σ Q) X.xe s
noncomputable def qp : TT := fun _ H Q => Q true H
theorem gE {X : Cx} : kc X [] qp := fun _ _ _ H _ I h => wpAny_tests_nil ⟨H, I, h⟩
theorem ke {X : Cx} {c : Expr} {t : TT} (hc : PT X c t) : kc X [c] t := fun pins s σ H Q I h => wpAny_tests_one (hc pins s σ H Q I h)
noncomputable def qq (J : It) (ρ : L2.St) (tt : TT) (te : TE) (H : Hp) (Q : VK) : Prop := ∃ W : Nat -> Nat -> List V -> Hp -> Prop, (∃ m, W 0 m [] H) /\ ∀ i m ys H, W i m ys H ->
 (J.stop i H /\ ys.length <= sizeLine /\ ∀ l, H l = none -> Q (.ref l) (upd H l (.lst ys))) ∨ (J.go i H /\ ys.length < sizeLine /\ ∃ N : List V -> Hp -> Prop, (∀ zs H', N zs H' -> ∃ m', m' < m /\ W (i + 1) m' zs H') /\
  ∀ x H', J.yld i H x H' -> tt (some x :: ρ) H' fun b H1 => if b = true then te (some x :: ρ) H1 fun y H2 => N (ys ++ [y]) H2 else N ys H1)
noncomputable def lP (wi : TI) (fr : List Nat) (tt : TT) (te : TE) : TE := fun σ H Q => wi σ H fun J H1 => qq J (fr.map fun j => (σ[j]?).join) tt te H1 Q
section
variable {X : Cx} {pins : List (Addr × Obj)} {σ : L2.St} {H2 : Hp} {s2 : Shared} {x : Str} {px pos : Pos} {elt iter : Expr} {ifs : List Expr} {scope : Scope} {cl : List (Str × Addr)} {fr : List Nat} {ys : List Str} {tt : TT} {te : TE}
theorem tS {l : List (Str × NameKind)} {p : Str × NameKind -> Bool} (h : l.all p = true) {y : Str} {k : NameKind} (e : l.lookup y = some k) : p (y, k) = true := by
 exact List.all_eq_true.mp h _ (PySem.mem_of_lookup e)
theorem OI {C : Addr} {ex : List Addr} {pn : List (Addr × Obj)} (S : cP X x scope cl fr ys) (I2 : Inv X pins σ H2 s2) (f2 : ∀ b ∈ ex, cp X pins H2 b) (hC : s2.heap.objs.size <= C) (hex : ∀ b ∈ ex, b < s2.heap.objs.size) : (bu X (x :: ys) scope cl C s2 H2 ex pn).Ok := by
 refine ⟨I2.ok.mod, S.kind, I2.ok.glob, I2.ok.blt, hC, fun a b c h1 h2 => ?_, fun y hy => ?_, fun _ _ z => (nomatch z), I2.ok.hd, I2.ok.frames, .inl rfl, fun b hb => ⟨?_, fun y c e z => ?_⟩, I2.bs, Nat.le_trans I2.ok.bsz I2.sz, fun b o e hb => ?_, fun b hb z => ?_, I2.stack, I2.k6⟩
 ·exact I2.ok.inj a b c (S.cls.get a c h1) (S.cls.get b c h2)
 ·have zj : (relabel scope X.env).names.lookup y = some .cell ∨ (relabel scope X.env).names.lookup y = some .free := hy
  have q : (cl.lookup y).isSome = true := by
   rcases zj with e | e
   ·simpa using tS S.kinds e
   ·simpa using tS S.kinds e
  exact Option.isSome_iff_exists.mp q
 ·exact Nat.ne_of_lt (Nat.lt_of_lt_of_le (hex b hb) hC)
 ·exact (f2 b hb).2.2.2.2.1 y c (S.cls.get y c e) z
 ·obtain ⟨_, _, _, d, _, _⟩ := f2 b hb
  rcases d with d | d
  ·exact I2.ok.noex b o e d
  ·exact absurd (Nat.lt_of_lt_of_le (Heap.lt_size e) (Nat.le_trans I2.ok.bsz d)) (Nat.lt_irrefl _)
 ·obtain ⟨_, d1, d2, _⟩ := f2 b hb
  rcases List.mem_cons.mp (I2.fI b z) with q | q
  ·exact d1 q
  ·exact d2 q
theorem Ha {J : It} {fp : List Addr} {it : Addr} {tn : Nat -> Heap -> Prop} {E : Value -> Shared -> Prop} {Q : VK} {RR : Value -> Addr -> Result -> Shared -> Prop}
 (S : cP X x scope cl fr ys) (hc : X.calm = true)
 (hb : ∀ (C : Addr) (s : Shared) (H : Hp) (ex : List Addr) (pn : List (Addr × Obj)), kc (bu X (x :: ys) scope cl C s H ex pn) ifs tt /\ PE (bu X (x :: ys) scope cl C s H ex pn) elt te)
 (I2 : Inv X pins σ H2 s2) (T : Turn X.prog X.w X.K (.Name x px) J fp it tn) (dv : tn 0 s2.heap) (f2 : ∀ b ∈ fp, cp X pins H2 b)
 (h : qq J (fr.map fun j => (σ[j]?).join) tt te H2 Q)
 (zk : ∀ D C s' H', Inv X pins σ H' s' -> (∃ m, s'.heap.Ns C m) -> cp X pins H' C -> Q (.ref D) H' -> RR (.ref D) C (.ok .next) s') :
 wpAny (model X.prog X.w) X.A (newList []) (fun acc s3 => wpAny (model X.prog X.w) X.A (newFunctionEnv scope X.env.globals cl [] X.env.qual none .none (some X.env)) (fun qr s4 =>
  codeAny (model X.prog X.w) X.A (.compStart (.ListComp elt [⟨.Name x px, iter, ifs, 0⟩] scope pos) 0 (.ref it) acc { qr with scope := relabel scope X.env }) (RR acc qr.locals) s4) E s3) E s2 := by
 obtain ⟨W, ⟨m0, w0⟩, turn⟩ := h
 refine wpAny_newObj_type (wpAny_newFunctionEnv (fun y hy => by simpa using List.all_eq_true.mp S.nocell y hy) (fun y hy => absurd hy (by simp)) (fun h1 eQ fu => ?_) S.kind)
 dsimp only at eQ fu ⊢
 generalize eP : s2.heap.push { cls := .type "list", dict := none, data := .seq ([] : List Value).toArray } = P2 at eQ fu ⊢
 have sz : P2.objs.size = s2.heap.objs.size + 1 := by rw [<- eP, Heap.size_push]
 have eh : s2.heap.objs.size ≠ P2.objs.size := by walk_at "om"
 have keep : ∀ b o, s2.heap.get? b = some o -> h1.get? b = some o := fun b o e => by
  have lt := Heap.lt_size e
  exact fu.extBut b o (by walk_at "om") (Heap.get?_push_of_some _ (eP ▸ Heap.get?_push_of_some _ e))
 have hD : h1.get? s2.heap.objs.size = some { cls := .type "list", data := .seq ([] : List Value).toArray 0 } :=
  fu.extBut _ _ eh (Heap.get?_push_of_some _ (eP ▸ Heap.get?_push_size _ rfl))
 have dD : ∀ b ∈ fp, b < s2.heap.objs.size := fun b hb => by
  obtain ⟨o, e, _⟩ := T.obj 0 _ dv b hb
  exact Heap.lt_size e
 have qt : ∀ b, s2.heap.objs.size <= b -> b ∉ aT X.stack := fun b hle z => by
  rcases List.mem_cons.mp (I2.fI b z) with q | q
  ·have := I2.lt; walk_at "om"
  ·exact I2.yw hle q
 generalize eC : P2.objs.size = C at eQ fu eh ⊢
 generalize eD : s2.heap.objs.size = D at eh hD dD qt
 have kf : s2.heap.objs.size <= C := by walk_at "om"
 have qu : s2.heap.objs.size <= D := by walk_at "om"
 have zm : (bu X (x :: ys) scope cl C s2 H2 fp (X.pn ++ pins)).Ok := OI S I2 f2 kf (fun b hb => by have := dD b hb; walk_at "om")
 have qv : ∀ p ∈ X.pn ++ pins, p.1 ≠ C /\ p.1 ≠ D /\ p.1 ∉ aT X.stack /\ ∀ b ∈ fp, p.1 ≠ b := fun p hp => by
  obtain ⟨e, n, nL, nf, _⟩ := I2.pin p hp
  have lt := Heap.lt_size e
  refine ⟨by walk_at "om", by walk_at "om", fun z => ?_, fun b hb => (f2 b hb).2.2.2.2.2 p hp⟩
  rcases List.mem_cons.mp (I2.fI _ z) with q | q
  ·exact nL q
  ·exact nf q
 have I4 : Inv (bu X (x :: ys) scope cl C s2 H2 fp (X.pn ++ pins)) [] (none :: fr.map fun j => (σ[j]?).join) H2 { s2 with heap := h1, toks := s2.toks + ([] : List (Str × Value)).length } := by
  refine ⟨zm, rfl, I2.bare, Un.kept keep, ⟨_, eQ, fun i y v e1 e2 e3 => ?_⟩, fun y c e => ?_, I2.ar.fresh kf, fun y c e => I2.cS y c (S.cls.get y c e), fun p hp => ?_, I2.ar.kept keep, ?_⟩
  ·cases i with
   | zero => simp at e2
   | succ i =>
    simp only [List.getElem?_cons_succ] at e1 e2
    have qw : ys[i]? = some y := e1
    obtain ⟨j, c, hN, hσ, hk, qx, gX⟩ := S.aT.get i y v qw e2
    obtain ⟨m, hm, hl⟩ := I2.loc
    obtain ⟨u, ru, lu⟩ := hl j y v hN hσ (.inr (.inl hk))
    refine ⟨u, ru, .inr ⟨.inl ?_, c, qx, ?_⟩⟩
    ·have z := List.all_eq_true.mp S.kfr y (List.mem_of_getElem? qw)
     exact (by simpa using z : (relabel scope X.env).names.lookup y = some .cell)
    ·rcases lu with ⟨z, _⟩ | ⟨_, c', e', q'⟩
     ·rw [hk] at z; cases z
     ·rw [gX] at e'; cases e'
      obtain ⟨o, ho, hd⟩ := q'
      exact ⟨o, keep _ _ ho, hd⟩
  ·obtain ⟨v, o, ho, hd⟩ := I2.cell y c (S.cls.get y c e)
   exact ⟨v, o, keep _ _ ho, hd⟩
  ·have cQ : p ∈ X.pn ++ pins := by
    have : p ∈ (X.pn ++ pins) ++ [] := hp
    simpa using this
   obtain ⟨e, n, _, _, d⟩ := I2.pin p cQ
   obtain ⟨p1, _, p3, _⟩ := qv p cQ
   exact ⟨keep _ _ e, n, p1, p3, d⟩
  ·show (none :: fr.map fun j => (σ[j]?).join).length = (x :: ys).length
   simp [S.aT.len]
 have qy : tn 0 h1 := T.keep 0 _ _ dv fun b _ o e => keep b o e
 have kg : ∀ (H' : Hp) (o : Obj), (∀ b ∈ fp, H' b = none) -> ∀ b ∈ fp, cp (bu X (x :: ys) scope cl C s2 H2 fp (X.pn ++ pins)) [(D, o)] H' b := fun H' o hn b hb => by
  obtain ⟨_, d1, d2, d3, d4, d5⟩ := f2 b hb
  have lt := dD b hb
  refine ⟨hn b hb, ?_, fun z => ?_, .inl hb, fun y c e => d4 y c (S.cls.get y c e), fun p hp => ?_⟩
  ·show b ≠ C
   walk_at "om"
  ·rcases List.mem_cons.mp (I2.fI b z) with q | q
   ·exact d1 q
   ·exact d2 q
  ·have cQ : p ∈ (X.pn ++ pins) ++ [(D, o)] := hp
   rcases List.mem_append.mp cQ with z | z
   ·exact d5 p z
   ·have : p = (D, o) := by simpa using z
    subst this
    show D ≠ b
    walk_at "om"
 have loop : ∀ s' : Shared, s' = { s2 with heap := h1, toks := s2.toks + ([] : List (Str × Value)).length } ->
  codeAny (model X.prog X.w) X.A (.compLoop (.ListComp elt [⟨.Name x px, iter, ifs, 0⟩] scope pos) 0 (.ref it) (.ref D) (compEnvC scope cl C X.env)) (RR (.ref D) C) s' := by
  rintro s' rfl
  refine codeAny_compLoop_tests (fun n s' => ∃ i zs H' o ag nn, Inv (bu X (x :: ys) scope cl C s2 H2 fp (X.pn ++ pins)) [] (o :: fr.map fun j => (σ[j]?).join) H' s' /\ tn i s'.heap /\ (∀ b ∈ fp, H' b = none) /\ H' D = none /\
   s'.heap.get? D = some { cls := .type "list", data := .seq (ag : List Value).toArray nn } /\ Vals zs ag /\ W i n zs H') ?_ m0 ⟨0, [], H2, none, [], 0, I4, qy, fun b hb => (f2 b hb).1, I2.ar.fresh qu, hD, .nil, w0⟩
  rintro n s3 ⟨i, zs, H3, o3, ag, nn, I3, gS, gT, kh, zo, r3, w3⟩
  have qz : Inv (bu X (x :: ys) scope cl C s2 H2 fp (X.pn ++ pins)) [(D, { cls := .type "list", data := .seq ag.toArray nn })] (o3 :: fr.map fun j => (σ[j]?).join) H3 s3 := I3.jT fun p hp => by
   have : p = (D, { cls := .type "list", data := .seq ag.toArray nn }) := by simpa using hp
   subst this
   exact ⟨zo, kh, eh, qt D (Nat.le_refl _), fun v z => nomatch z⟩
  rcases turn i n zs H3 w3 with ⟨stop, hlen, q⟩ | ⟨go, hlen, N, qA, step⟩
  ·refine wpAny_mono (T.done (bu X (x :: ys) scope cl C s2 H2 fp (X.pn ++ pins)) rfl rfl rfl hc i _ s3 _ H3 (fun _ _ => False) qz (kg H3 _ gT) gS stop) (fun r s4 ⟨hr, J4⟩ => ?_) fun _ _ z => z.elim
   subst hr
   have un := J4.base
   have zp : ∀ b o, s2.heap.get? b = some o -> b ≠ D := fun b o e => by have := Heap.lt_size e; walk_at "om"
   have dE : ∀ b u, H3 b = some u -> b ≠ D := fun b u e z => by rw [z, kh] at e; cases e
   refine zk D C s4 (upd H3 D (.lst zs)) ?_ ?_ ?_ (q D kh)
   ·refine I2.sj (ch := fp) J4.os ⟨un.keep, un.slot, fun b o e nn hx => ?_, un.there, fun b xs e => ?_, fun b o u e => ?_, fun b ps e => ?_⟩ (fun a o e => ?_) J4.bare fun b hb => ?_
    ·rw [aH (zp b o e)]; exact un.free b o e nn hx
    ·have := un.cb b xs e; rw [aH (dE b _ this)]; exact this
    ·have := un.cc b o u e; rw [aH (dE b _ this)]; exact this
    ·obtain ⟨more, this⟩ := un.cB b ps e
     exact ⟨more, by rw [aH (dE b _ this)]; exact this⟩
    ·by_cases ha : a = D
     ·subst ha
      rw [aq] at e; cases e
      exact ⟨hlen, ag, nn, r3, (J4.pin (a, _) (List.mem_append_right _ (List.mem_singleton.mpr rfl))).1⟩
     ·rw [aH ha] at e
      exact (J4.ar a o e).dn (fun _ _ _ z => z) (fun b z => by rw [aH (dE b _ z)]; exact z) fun b xs z => by rw [aH (dE b _ z)]; exact z
    ·obtain ⟨_, d1, d2, d3, d4, d5⟩ := f2 b hb
     exact ⟨d3, d1, d4, d5⟩
   ·obtain ⟨m, hm, _⟩ := J4.loc
    exact ⟨m, hm⟩
   ·exact I2.d9 kf (by rw [aH (Ne.symm eh)]; exact J4.free)
  ·refine wpAny_mono (T.item (bu X (x :: ys) scope cl C s2 H2 fp (X.pn ++ pins)) rfl rfl rfl hc i _ s3 _ H3 (fun _ _ => False) qz (kg H3 _ gT) gS go) (fun r s4 ⟨u, hr, h4⟩ => ?_) fun _ _ z => z.elim
   subst hr
   have go' : wpAny (model X.prog X.w) X.A (letOwnedTupleGo (.Name x px) (.ref it) u >>= fun _ => assign (.Name x px) (compEnvC scope cl C X.env) u) (fun _ s5 =>
    wpAny (model X.prog X.w) X.A (forIn ifs true fun c r => if r = true then do let ok <- isTrue c (compEnvC scope cl C X.env) (eval c (compEnvC scope cl C X.env)); pure (ForInStep.yield ok) else pure (ForInStep.yield r)) (fun ok s6 =>
     if ok = true then wpAny (model X.prog X.w) X.A (eval elt (compEnvC scope cl C X.env)) (fun y s7 =>
      wpAny (model X.prog X.w) X.A (call (.builtin "list.append") [.ref D, y]) (fun _ s8 => ∃ m, m < n /\ ∃ i zs H' o ag nn, Inv (bu X (x :: ys) scope cl C s2 H2 fp (X.pn ++ pins)) [] (o :: fr.map fun j => (σ[j]?).join) H' s8 /\ tn i s8.heap /\ (∀ b ∈ fp, H' b = none) /\ H' D = none /\
       s8.heap.get? D = some { cls := .type "list", data := .seq (ag : List Value).toArray nn } /\ Vals zs ag /\ W i m zs H') (fun _ _ => False) s7) (fun _ _ => False) s6
     else ∃ m, m < n /\ ∃ i zs H' o ag nn, Inv (bu X (x :: ys) scope cl C s2 H2 fp (X.pn ++ pins)) [] (o :: fr.map fun j => (σ[j]?).join) H' s6 /\ tn i s6.heap /\ (∀ b ∈ fp, H' b = none) /\ H' D = none /\
      s6.heap.get? D = some { cls := .type "list", data := .seq (ag : List Value).toArray nn } /\ Vals zs ag /\ W i m zs H') (fun _ _ => False) s5) (fun _ _ => False) s4 := by
    refine wpAny_bind (aB h4 fun _ s5 ⟨y5, H5, I5, r5, yl, fi, pw⟩ => ?_)
    have pA := I5.pinned (kg H5 _ pw) (T.obj _ _ fi)
    refine aB (bc (X := bu X (x :: ys) scope cl C s2 H2 fp (X.pn ++ pins)) (i := 0) S.nd rfl (.inl (lookup_relabel_local S.own)) (.inr (lookup_relabel_local S.own)) _ s5 _ H5 y5 u (fun σ' H' => σ' = (some y5 :: fr.map fun j => (σ[j]?).join) /\ H' = H5) pA r5 ⟨rfl, rfl⟩) fun _ s6 ⟨σ6, H6, I6, e6, OJ⟩ => ?_
    subst e6 OJ
    have after : ∀ (s7 : Shared) (H7 : Hp), Inv (bu X (x :: ys) scope cl C s2 H2 fp (X.pn ++ pins)) ([(D, { cls := .type "list", data := .seq ag.toArray nn })] ++ ly fp s5.heap) (some y5 :: fr.map fun j => (σ[j]?).join) H7 s7 ->
     Inv (bu X (x :: ys) scope cl C s2 H2 fp (X.pn ++ pins)) [] (some y5 :: fr.map fun j => (σ[j]?).join) H7 s7 /\ tn (i + 1) s7.heap /\ (∀ b ∈ fp, H7 b = none) /\ H7 D = none /\ s7.heap.get? D = some { cls := .type "list", data := .seq ag.toArray nn } := fun s7 H7 I7 => by
     have pD := I7.pin (D, { cls := .type "list", data := .seq ag.toArray nn }) (List.mem_append_right _ (List.mem_append_left _ (List.mem_singleton.mpr rfl)))
     refine ⟨I7.jT fun p hp => absurd hp (by simp), T.keep _ _ _ fi fun b hb o e => (I7.pin (b, o) (List.mem_append_right _ (List.mem_append_right _ (lA hb e)))).1, fun b hb => ?_, pD.2.1, pD.1⟩
     obtain ⟨o, e, _⟩ := T.obj _ _ fi b hb
     exact (I7.pin (b, o) (List.mem_append_right _ (List.mem_append_right _ (lA hb e)))).2.1
    refine aB ((hb C s2 H2 fp (X.pn ++ pins)).1 _ s6 _ H6 _ I6 (step y5 H6 yl)) fun ok s7 ⟨H7, I7, q7⟩ => ?_
    dsimp only at q7
    by_cases ar : ok = true
    ·rw [if_pos ar] at q7 ⊢
     refine aB ((hb C s2 H2 fp (X.pn ++ pins)).2 _ s7 _ H7 _ I7 q7) fun yv s8 ⟨y8, H8, I8, r8, n8⟩ => ?_
     obtain ⟨m', ki, w8⟩ := qA _ _ n8
     obtain ⟨J8, zq, zr, qB, kj⟩ := after s8 H8 I8
     have hl := r3.length
     refine call_meets F.slot_list_append ⟨_, kj, rfl⟩ F.entry_list_append (F.args_list_append_2 _ _) (PySem.list_append D ag.toArray nn yv (by rw [List.size_toArray]; walk_at "om")) ⟨kj, ?_⟩
     have qC := PySem.IsL.update kj (fun a => a.push yv)
     rw [List.push_toArray] at qC
     refine ⟨m', ki, i + 1, zs ++ [y8], H8, some y5, ag ++ [yv], _, J8.turned (it := D) (fun b o br e => (Heap.get?_update_other _ _ (Ne.symm br)).trans e) qB eh (.inr qu) (fun y c e z => ?_) (fun p hp => ?_), T.keep _ _ _ zq fun b br o e => ?_, zr, qB, qC, r3.append (.cons r8 .nil), w8⟩
     ·obtain ⟨v, o, ho, _⟩ := I2.cell y c (S.cls.get y c e)
      have := Heap.lt_size ho
      walk_at "om"
     ·have cQ : p ∈ X.pn ++ pins := by
       have : p ∈ (X.pn ++ pins) ++ [] := hp
       simpa using this
      exact (qv p cQ).2.1
     ·have := dD b br
      exact (Heap.get?_update_other _ _ (by walk_at "om")).trans e
    ·rw [if_neg ar] at q7 ⊢
     obtain ⟨m', ki, w7⟩ := qA _ _ q7
     obtain ⟨J7, zt, zu, zv, zw⟩ := after s7 H7 I7
     exact ⟨m', ki, i + 1, zs, H7, some y5, ag, nn, J7, zt, zu, zv, zw, r3, w7⟩
   have e0 : (letOwnedTupleGo (.Name x px) (.ref it) u >>= fun _ => assign (.Name x px) (compEnvC scope cl C X.env) u) = assign (.Name x px) (compEnvC scope cl C X.env) u := rfl
   rw [e0] at go'
   refine wpAny_mono go' (fun _ s5 h5 => wpAny_mono h5 (fun ok s6 h6 => ?_) fun _ _ z => z.elim) fun _ _ z => z.elim
   by_cases ar : ok = true
   ·rw [if_pos ar] at h6 ⊢
    exact wpAny_mono h6 (fun y s7 h7 => wpAny_mono h7 (fun _ _ z => z) fun _ _ z => z.elim) fun _ _ z => z.elim
   ·rw [if_neg ar] at h6 ⊢
    exact h6
 exact codeAny_compStart_list (loop _ rfl) (T.self X.A 0 _ _ _ qy (loop _ rfl))
theorem eU {wi : TI} (S : cP X x scope cl fr ys) (hc : X.calm = true) (hi : PI X (.Name x px) iter wi)
 (hb : ∀ (C : Addr) (s : Shared) (H : Hp) (ex : List Addr) (pn : List (Addr × Obj)), kc (bu X (x :: ys) scope cl C s H ex pn) ifs tt /\ PE (bu X (x :: ys) scope cl C s H ex pn) elt te)
 (hs : ∀ z, foldedSetIterable iter X.env z = pure z := by intro _; rfl) : PE X (.ListComp elt [⟨.Name x px, iter, ifs, 0⟩] scope pos) (lP wi fr tt te) := by
 intro pins s σ H Q I h
 rw [eval_ListComp]
 refine wpAny_comprehension_free (use := none) rfl hs S.clos S.kind (fun y hy hl => ?_) (aB (hi pins s σ H _ I h) fun xv s1 h1 => aB h1 fun pj s2 h2 => ?_)
 ·have z := List.all_eq_true.mp S.names y hy
  rw [hl] at z
  simpa using z
 ·obtain ⟨it, fp, tn, J, H2, rfl, I2, T, dv, f2, hB⟩ := h2
  refine Ha (RR := fun acc C => compPost (model X.prog X.w) X.A X.xe none (EP X pins σ Q) acc C) S hc hb I2 T dv f2 hB fun D C s' H' J' hn fC q => ?_
  obtain ⟨m, hm⟩ := hn
  obtain ⟨c0, c1, c2, c3, c4, c5⟩ := fC
  exact ⟨m, hm, fun h' sb => ⟨.ref D, H', J'.turned (it := C) (fun b o hb e => sb.extBut b o hb e) c0 c1 c3 c4 c5, rfl, q⟩⟩
noncomputable def qD (i : Nat) (te : TE) : TS := fun D σ H => te σ H fun v H1 => D.nx (σ.set i (some v)) H1
theorem Hb {wi : TI} {y : Str} {py Hc : Pos} {i : Nat} (S : cP X x scope cl fr ys) (hc : X.calm = true) (hN : X.N.Nodup) (hy : X.N[i]? = some y) (hl : X.env.scope.names.lookup y = some .local) (hi : PI X (.Name x px) iter wi)
 (hb : ∀ (C : Addr) (s : Shared) (H : Hp) (ex : List Addr) (pn : List (Addr × Obj)), kc (bu X (x :: ys) scope cl C s H ex pn) ifs tt /\ PE (bu X (x :: ys) scope cl C s H ex pn) elt te)
 (OL : swapsWith (.ListComp elt [⟨.Name x px, iter, ifs, 0⟩] scope pos) (some (.Name y py)) Hc.line X.env = pure true := by rfl)
 (hs : ∀ z, foldedSetIterable iter X.env z = pure z := by intro _; rfl) : PS X (.Assign [.Name y py] (.ListComp elt [⟨.Name x px, iter, ifs, 0⟩] scope pos) Hc) (qD i (lP wi fr tt te)) := by
 intro pins s σ H Dn I h
 rw [exec_Assign_Name_used _ _ _ _ OL]
 refine wpAny_bind (wpAny_standAt (wpAny_bind ?_))
 show wpAny _ X.A (do let _ <- comprehension (.ListComp elt [⟨.Name x px, iter, ifs, 0⟩] scope pos) scope X.env _ (newList []) false (eval iter X.env) (some (assign (.Name y py) X.env))) _ _ s
 refine wpAny_bind (aB (wpAny_comprehension_free (use := some (assign (.Name y py) X.env)) (Q := fun _ s' => SP X pins Dn .next s') rfl hs S.clos S.kind (fun z hz hl => ?_) (aB (hi pins s σ H _ I h) fun xv s1 h1 => aB h1 fun pj s2 h2 => ?_)) fun _ s' hq => wpAny_pure (wpAny_pure hq))
 ·have z' := List.all_eq_true.mp S.names z hz
  rw [hl] at z'
  simpa using z'
 ·obtain ⟨it, fp, tn, J, H2, rfl, I2, T, dv, f2, hB⟩ := h2
  refine Ha (RR := fun acc C => compPost (model X.prog X.w) X.A X.xe (some (assign (.Name y py) X.env)) (fun _ s' => SP X pins Dn .next s') acc C) S hc hb I2 T dv f2 hB fun D C s' H' J' hn fC q => ?_
  obtain ⟨m, oC, es, ep, ho, hd, hr⟩ := hn
  obtain ⟨c0, c1, c2, c3, c4, c5⟩ := fC
  have J2 : Inv X (pins ++ [(C, oC)]) σ H' s' := J'.jT fun p hp => by
   rcases List.mem_append.mp hp with z | z
   ·exact J'.pin p (List.mem_append_right _ z)
   ·have : p = (C, oC) := by simpa using z
    subst this
    exact ⟨ho, c0, c1, c2, fun v z => by rw [hd] at z; cases z⟩
  show wpAny _ X.A (assign (.Name y py) X.env (.ref D)) _ _ _
  refine aB (bc (X := X) hN hy (.inl hl) (.inr hl) _ s' σ H' (.ref D) (.ref D) (fun σ' qE => σ' = σ.set i (some (.ref D)) /\ qE = H') J2 rfl ⟨rfl, rfl⟩) fun _ s3 ⟨σ3, H3, J3, e1, e2⟩ => ?_
  subst e1 e2
  obtain ⟨pc, pn0, _⟩ := J3.pin (C, oC) (List.mem_append_right _ (List.mem_append_right _ (List.mem_singleton.mpr rfl)))
  refine ⟨m, ⟨oC, es, ep, pc, hd, hr⟩, fun h' sb => ⟨_, H3, J3.sr.turned (it := C) (fun b o hb e => sb.extBut b o hb e) c0 c1 c3 c4 c5, q⟩⟩
end
noncomputable def dF (Ok : Hp -> Prop) (ρ : L2.St) (tt : TT) (te : TE) : List V -> List V -> Hp -> (List V -> Hp -> Prop) -> Prop
 | [], ys, H, Q => Ok H /\ Q ys H
 | x :: r, ys, H, Q => Ok H /\ tt (some x :: ρ) H fun b H1 => if b = true then te (some x :: ρ) H1 fun y H2 => dF Ok ρ tt te r (ys ++ [y]) H2 Q else dF Ok ρ tt te r ys H1 Q
structure tT (J : It) (Ok : Hp -> Prop) (xs : List V) : Prop where
 go : ∀ i H x, Ok H -> xs[i]? = some x -> J.go i H
 yld : ∀ i H x H', Ok H -> J.yld i H x H' -> H' = H /\ (i < xs.length -> xs[i]? = some x)
 stop : ∀ i H, Ok H -> xs.length <= i -> J.stop i H
section
variable {J : It} {Ok : Hp -> Prop} {xs : List V} {ρ : L2.St} {tt : TT} {te : TE} {H : Hp} {Q : VK} {K : PySem.W.Frag} {a : Addr}
theorem eV (O : tT J Ok xs) (hn : xs.length <= sizeLine) (h : dF Ok ρ tt te xs [] H fun ys H' => ∀ l, H' l = none -> Q (.ref l) (upd H' l (.lst ys))) : qq J ρ tt te H Q := by
 refine ⟨fun i m ys H => m = xs.length - i /\ i <= xs.length /\ ys.length <= i /\ dF Ok ρ tt te (xs.drop i) ys H fun ys H' => ∀ l, H' l = none -> Q (.ref l) (upd H' l (.lst ys)), ⟨_, rfl, Nat.zero_le _, Nat.le_refl _, h⟩, ?_⟩
 rintro i m ys H ⟨rfl, hi, hy, g⟩
 by_cases a9 : i < xs.length
 ·have e := List.drop_eq_getElem_cons a9
  rw [e] at g
  obtain ⟨g0, g1⟩ := g
  refine .inr ⟨O.go i H _ g0 (List.getElem?_eq_getElem a9), by walk_at "om", fun zs H' => zs.length <= i + 1 /\ dF Ok ρ tt te (xs.drop (i + 1)) zs H' fun ys H' => ∀ l, H' l = none -> Q (.ref l) (upd H' l (.lst ys)), fun zs H' q => ⟨_, by walk_at "om", rfl, a9, q.1, q.2⟩, fun x H' y => ?_⟩
  obtain ⟨rfl, ex⟩ := O.yld i H x H' g0 y
  have ex := ex a9
  rw [List.getElem?_eq_getElem a9] at ex
  cases ex
  have l1 : ∀ y : V, (ys ++ [y]).length <= i + 1 := fun y => by rw [List.length_append, List.length_singleton]; walk_at "om"
  have l2 : ys.length <= i + 1 := by walk_at "om"
  simp only [l1, l2, true_and]
  exact g1
 ·have e : i = xs.length := by walk_at "om"
  subst e
  rw [List.drop_length] at g
  exact .inl ⟨O.stop _ H g.1 (Nat.le_refl _), by walk_at "om", g.2⟩
theorem zx : tT (fN K a) (fun H => ah K H a xs) xs :=
 ⟨fun _ _ _ h e => ⟨xs, _, h, e⟩, fun _ _ _ _ h y => ⟨y.1, fun _ => y.2 xs h⟩, fun _ _ h hi => ⟨xs, h, hi⟩⟩
theorem Hd : tT (pq K a) (fun H => ai K H a xs) xs :=
 ⟨fun _ _ _ h e => ⟨xs, _, h, e⟩, fun _ _ _ _ h y => ⟨y.1, fun _ => y.2 xs h⟩, fun _ _ h hi => ⟨xs, h, hi⟩⟩
theorem kl {lo : Int} {n : Nat} : tT (fg lo n) (fun _ => True) ((List.range n).map fun k => V.int (lo + (k : Nat))) :=
 ⟨fun i _ _ _ e => by
  have := (List.getElem?_eq_some_iff.mp e).1
  show i < n
  simpa using this, fun i _ _ _ _ y => ⟨y.1, fun hi => by
   have eS : i < n := by simpa using hi
   rw [y.2, List.getElem?_map, List.getElem?_range eS]; rfl⟩, fun i _ _ hi => by
   show n <= i
   simpa using hi⟩
theorem tU {p : V -> Bool} {f : V -> V} {Q' : List V -> Hp -> Prop} (dN : Ok H) : ∀ {xs ys : List V}, (∀ x ∈ xs, ∀ Q, Q (p x) H -> tt (some x :: ρ) H Q) -> (∀ x ∈ xs, p x = true -> ∀ Q, Q (f x) H -> te (some x :: ρ) H Q) -> Q' (ys ++ (xs.filter p).map f) H -> dF Ok ρ tt te xs ys H Q'
 | [], ys, _, _, q => ⟨dN, by simpa using q⟩
 | x :: r, ys, ht, he, q => by
  refine ⟨dN, ht x (.head _) _ ?_⟩
  by_cases hb : p x = true
  ·rw [if_pos hb]
   refine he x (.head _) hb _ (tU dN (fun y hy => ht y (.tail _ hy)) (fun y hy => he y (.tail _ hy)) ?_)
   rw [List.filter_cons, if_pos hb] at q
   simpa using q
  ·rw [if_neg hb]
   refine tU dN (fun y hy => ht y (.tail _ hy)) (fun y hy => he y (.tail _ hy)) ?_
   rw [List.filter_cons, if_neg hb] at q
   exact q
end
section
variable {X : Cx} {K : PySem.W.Frag}
theorem fv (h : X.K = K) : fQ X (sF K) := h ▸ ao
theorem OM (h : X.K = K) : bI X (compareOp .NotIn) (yW K true) := h ▸ GC
end
end Gz
namespace Gz
open PySem PySem.Spec PyProof.Rows L2
mutual
inductive Dat (K : PySem.W.Frag) (H : Hp) : V -> PyData -> Prop where
 | non : Dat K H .non .none
 | bl (b : Bool) : Dat K H (.bl b) (.bool b)
 | int (i : Int) : Dat K H (.int i) (.int i)
 | str (x : Str) : Dat K H (.str x) (.str x)
 | tup {a : Addr} {xs : List V} {ds : List PyData} (h : ai K H a xs) (r : dG K H xs ds) : Dat K H (.ref a) (.tuple ds)
 | lst {a : Addr} {xs : List V} {ds : List PyData} (h : ah K H a xs) (r : dG K H xs ds) : Dat K H (.ref a) (.list ds)
inductive dG (K : PySem.W.Frag) (H : Hp) : List V -> List PyData -> Prop where
 | nil : dG K H [] []
 | cons {x : V} {d : PyData} {xs : List V} {ds : List PyData} (h : Dat K H x d) (r : dG K H xs ds) : dG K H (x :: xs) (d :: ds)
end
section
variable {X : Cx} {pins : List (Addr × Obj)} {σ : L2.St} {H : Hp} {s : Shared}
mutual
theorem Dat.reads (I : Inv X pins σ H s) : ∀ (d : PyData) {v : V} {u : Value}, Dat X.K H v d -> RelV v u -> ∃ as, Reads s.heap u d as
 | .none, _, _, .non, r => by cases r; exact ⟨_, .none⟩
 | .bool b, _, _, .bl _, r => by cases r; exact ⟨_, .bool b⟩
 | .int i, _, _, .int _, r => by obtain ⟨t, rfl⟩ := r; exact ⟨_, .int i t⟩
 | .str x, _, _, .str _, r => by obtain ⟨t, rfl⟩ := r; exact ⟨_, .str x t⟩
 | .tuple ds, _, _, .tup h q, r => by
  cases r
  obtain ⟨ag, rv, ⟨o, ho, hc, n, hd⟩, _⟩ := I.tuple h
  obtain ⟨as, ra⟩ := dG.reads I ds q rv
  exact ⟨_, .tuple ho hc hd (by simpa using ra)⟩
 | .list ds, _, _, .lst h q, r => by
  cases r
  obtain ⟨ag, rv, ⟨o, n, ho, hc, _, hd⟩, _⟩ := I.list h
  obtain ⟨as, ra⟩ := dG.reads I ds q rv
  exact ⟨_, .list ho hc hd (by simpa using ra)⟩
theorem dG.reads (I : Inv X pins σ H s) : ∀ (ds : List PyData) {vs : List V} {us : List Value}, dG X.K H vs ds -> Vals vs us -> ∃ as, ReadsAll s.heap us ds as
 | [], _, _, .nil, r => by cases r; exact ⟨_, .nil⟩
 | d :: ds, _, _, .cons h q, r => by
  cases r with
  | cons r1 r2 =>
   obtain ⟨as, ra⟩ := Dat.reads I d h r1
   obtain ⟨bs, rb⟩ := dG.reads I ds q r2
   exact ⟨_, .cons ra rb⟩
end
noncomputable def tV (K : PySem.W.Frag) (neg : Bool) : R2 := fun x y H Q => ∃ d e, Dat K H x d /\ Dat K H y e /\ d.canLay0 = true /\ e.canLay0 = true /\ d.depth <= 60 /\ Q (.bl (if neg = true then !PyData.eqv d e else PyData.eqv d e)) H
theorem tW (hu : X.A.units + 64 < cLine) : bI X (compareOp .Eq) (tV X.K false) := by
 intro pins s σ H x y v u Q I rx ry h
 obtain ⟨d, e, dx, dy, c1, c2, dd, q⟩ := h
 obtain ⟨as, ra⟩ := Dat.reads I d dx rx
 obtain ⟨bs, rb⟩ := Dat.reads I e dy ry
 exact SeqAt.compareEq_reads ra rb c1 c2 (by omega) ⟨.bl _, H, I, rfl, q⟩
end
end Gz
namespace Gz
open PySem PySem.Spec PyProof.Rows L2
noncomputable abbrev En := Option Int
noncomputable def ev : En -> V
 | none => .non
 | some i => .int i
theorem ig : ev none = .non := rfl
theorem ij (i : Int) : ev (some i) = .int i := rfl
noncomputable def ba : En -> En -> Bool
 | some x, some y => decide (y < x)
 | _, _ => false
noncomputable def bb (H : Hp) (v : V) (a b : En) : Prop := ∃ p, v = .ref p /\ H p = some (.tup [ev a, ev b])
theorem bb.same {H H1 : Hp} {v : V} {a b : En} (h : bb H v a b) (s : aw H H1) : bb H1 v a b := by
 obtain ⟨p, e, h⟩ := h
 exact ⟨p, e, s _ _ h⟩
theorem bb.new {H : Hp} {p : Addr} {a b : En} : bb (upd H p (.tup [ev a, ev b])) (.ref p) a b := ⟨p, rfl, aq⟩
noncomputable def hold (a b : En) (n : Int) : Bool := !ba a (some n) && !ba (some n) b
theorem zy {a b : En} {n : Int} : hold a b n = true ↔ (∀ x, a = some x -> x <= n) /\ (∀ y, b = some y -> n <= y) := by
 unfold hold
 rcases a with _ | x <;> rcases b with _ | y <;> simp [ba]
theorem ON (b : En) (n : Int) : hold none b n = !ba (some n) b := by unfold hold ba; simp
theorem He (y n : Int) : hold none (some y) n = decide (n <= y) := by
 rw [ON]
 by_cases h : y < n
 ·simp [ba, h]
 ·simp [ba, h]; omega
theorem Hf {x n : Int} (b : En) (h : ¬ n < x) : hold (some x) b n = hold none b n := by unfold hold; simp [ba, h]
theorem OO {x n : Int} (b : En) (h : n < x) : hold (some x) b n = false := by unfold hold; simp [ba, h]
noncomputable def cv : En -> En -> En
 | some x, some y => some (if y > x then y else x)
 | some x, none => some x
 | none, b => b
noncomputable def cw : En -> En -> En
 | some x, some y => some (if y < x then y else x)
 | some x, none => some x
 | none, b => b
noncomputable def nums (a b : En) : List Int := [a, b].filterMap id
noncomputable def tX (v : V) : Bool := !decide (v = .non)
theorem OP (a b : En) : ([ev a, ev b].filter tX).map (fun v => v) = (nums a b).map V.int := by
 rcases a with _ | x <;> rcases b with _ | y <;> simp [ev, nums, tX]
theorem OQ (a b : En) : ic ia (nums a b) .non = ev (cv a b) := by
 rcases a with _ | x <;> rcases b with _ | y <;> simp [nums, cv, ia, ic, ev]
theorem OR (a b : En) : ic ib (nums a b) .non = ev (cw a b) := by
 rcases a with _ | x <;> rcases b with _ | y <;> simp [nums, cw, ib, ic, ev]
theorem OS (b : En) : ba none b = false := by cases b <;> rfl
theorem OT {a b : En} {A B : Prop} (h1 : ba a b = true -> A) (h2 : ba a b = false -> B) : if ¬ ev a = .non then (if ¬ ev b = .non then ∃ i, ev a = .int i /\ ∃ x, ev b = .int x /\ if x < i then A else B else B) else B := by
 rcases a with _ | x
 ·simp only [ig, not_true_eq_false, ↓reduceIte]; exact h2 (OS _)
 rcases b with _ | y
 ·simp only [ig, ij, reduceCtorEq, not_false_eq_true, not_true_eq_false, ↓reduceIte]; exact h2 rfl
 simp only [ij, reduceCtorEq, not_false_eq_true, ↓reduceIte]
 refine ⟨_, rfl, _, rfl, ?_⟩
 split
 ·rename_i h; exact h1 (decide_eq_true h)
 ·rename_i h; exact h2 (decide_eq_false h)
noncomputable def Hg (H : Hp) (v : V) (lo hi : En) : Prop := (ba lo hi = true -> v = .non) /\ (ba lo hi = false -> bb H v lo hi)
theorem Hh {K : PySem.W.Frag} {H : Hp} {p : Addr} {a b : En} {Q : VK} {tt : TT} {te : TE} (hp : H p = some (.tup [ev a, ev b])) (ht : ∀ x H Q, Q (tX x) H -> tt [some x] H Q) (he : ∀ x H Q, Q x H -> te [some x] H Q)
 (q : ∀ l, H l = none -> Q (.ref l) (upd H l (.lst ((nums a b).map V.int)))) : qq (pq K p) [] tt te H Q := by
 refine eV (xs := [ev a, ev b]) Hd bo (tU (p := tX) (f := fun v => v) (ai.of hp) (fun x _ Q h => ht x H Q h) (fun x _ _ Q h => he x H Q h) ?_)
 rw [List.nil_append, OP]
 exact q
end Gz
namespace Gz
open L2
noncomputable abbrev S2 := En × En
noncomputable def hs (s : S2) (n : Int) : Bool := hold s.1 s.2 n
noncomputable def Hi (s : S2) : Prop := ba s.1 s.2 = false
noncomputable def tY (a b : En) : Prop := a = none ∨ ∃ x y, a = some x /\ b = some y /\ x <= y
theorem tY.trans {a b c : En} (h : tY a b) (h' : tY b c) : tY a c := by
 rcases h with rfl | ⟨x, y, rfl, rfl, h1⟩
 ·exact .inl rfl
 ·rcases h' with h' | ⟨x', y', e, rfl, h2⟩
  ·cases h'
  ·cases e; exact .inr ⟨_, _, rfl, rfl, by omega⟩
theorem OU {s : S2} {n : Int} : hs s n = true ↔ (∀ x, s.1 = some x -> x <= n) /\ (∀ y, s.2 = some y -> n <= y) := zy
noncomputable def tZ (a b : En) : Prop := b = none ∨ ∃ x y, a = some x /\ b = some y /\ x <= y
theorem tZ.trans {a b c : En} (h : tZ a b) (h' : tZ b c) : tZ a c := by
 rcases h' with rfl | ⟨x', y', rfl, rfl, h2⟩
 ·exact .inl rfl
 ·rcases h with h | ⟨x, y, rfl, e, h1⟩
  ·cases h
  ·cases e; exact .inr ⟨_, _, rfl, rfl, by omega⟩
open PySem in
noncomputable def fw (H : Hp) : List V -> List S2 -> Prop
 | [], [] => True
 | v :: vs, s :: ss => bb H v s.1 s.2 /\ fw H vs ss
 | _, _ => False
section
variable {H H1 : Hp} {K : PySem.W.Frag}
theorem bb.put {v : V} {a b : En} {l : PySem.Addr} {ys : List V} {o : HO} (h : bb H v a b) (hl : H l = some (.lst ys)) : bb (upd H l o) v a b := by
 obtain ⟨p, e, h⟩ := h
 exact ⟨p, e, by rw [aH (yt h hl fun z => nomatch z)]; exact h⟩
theorem fw.len : ∀ {vs : List V} {ss : List S2}, fw H vs ss -> vs.length = ss.length
 | [], [], _ => rfl
 | _ :: _, _ :: _, h => by simp [fw.len h.2]
 | [], _ :: _, h => h.elim
 | _ :: _, [], h => h.elim
open PySem
noncomputable def zA : En -> PyData
 | none => .none
 | some i => .int i
noncomputable def zB (s : S2) : PyData := .tuple [zA s.1, zA s.2]
theorem Hj (e : En) : Dat K H (ev e) (zA e) := by
 rcases e with _ | x
 ·exact .non
 ·exact .int x
theorem bb.dat {v : V} {a b : En} (h : bb H v a b) : Dat K H v (zB (a, b)) := by
 obtain ⟨p, rfl, h⟩ := h
 exact .tup (ai.of h) (.cons (Hj a) (.cons (Hj b) .nil))
end
end Gz
namespace Gz
open PySem PySem.Spec PyProof.Rows L2
noncomputable def t4 (lo st : Int) (n : Nat) : It := ⟨fun i _ => i < n, fun i H x H' => H' = H /\ x = .int (lo + (i : Int) * st), fun i _ => n <= i⟩
theorem OV {P : Program} {w : World} {K : PySem.W.Frag} {tg : Expr} (it : Addr) (lo st : Int) (n : Nat) : Turn P w K tg (t4 lo st n) [it] it (fun i h => IsRangeIter h it (lo + (i : Nat) * st) ((n : Int) - (i : Nat)) st) where
 mem := by simp
 obj := fun i h q b hb => by
  have e : b = it := by simpa using hb
  subst e
  exact ⟨_, q, fun v z => by
   have z' : Data.fields _ = Data.cell v := z
   cases z'⟩
 keep := fun i h h' q k => k it (by simp) _ q
 item := by
  intro X hP hw hK hc i pins s σ H E I hf q hg
  subst hP hw hK
  obtain ⟨f0, f1, f2, f3, f4, f5⟩ := hf it (by simp)
  have W := Walks.range (prog := X.prog) (w := X.w) (I.ok.hd hc) it lo st n
  refine W.item i s _ _ hg q fun v h' tk hv q' kk => ?_
  obtain ⟨t, rfl⟩ := hv
  have I1 : Inv X pins σ H { s with heap := h', toks := tk } := I.turned (fun b o hb e => kk b o (by simpa using hb) e) f0 f1 f3 f4 f5
  exact ⟨_, rfl, lh (s := { s with heap := h', toks := tk }) (n := "range_iterator") q' rfl rfl (by decide) ⟨.int (lo + (i : Int) * st), H, I1, ⟨t, rfl⟩, ⟨rfl, rfl⟩, q', fun b hb => (hf b hb).1⟩⟩
 done := by
  intro X hP hw hK hc i pins s σ H E I hf q hg
  subst hP hw hK
  obtain ⟨f0, f1, f2, f3, f4, f5⟩ := hf it (by simp)
  exact wpAny_pyNext_range_end (I.ok.hd hc) q (by have : n <= i := hg; omega) fun h' eb => ⟨rfl, I.turned (t' := s.toks) (fun b o hb e => eb b o hb e) f0 f1 f3 f4 f5⟩
 self := fun _ _ _ _ _ q h => wpAny_pyIter_rangeiter q h
noncomputable def ik (lo hi st : Int) : Nat := (Builtin.Range.rangeSize lo hi st).toNat
noncomputable def lQ (ta : TA) : TI := fun σ H R => ta σ H fun vs H1 => ∃ i j c : Int, vs = [.int i, .int j, .int c] /\ (-1000000 <= i /\ i <= 1000000 /\ -1000000 <= j /\ j <= 1000000 /\ -1000000 <= c /\ c <= 1000000 /\ c ≠ 0) /\ R (t4 i c (ik i j c)) H1
theorem Hk (i j c : Int) (h : c ≠ 0) : 0 <= Builtin.Range.rangeSize i j c := by
 unfold Builtin.Range.rangeSize
 split
 ·rename_i hc
  split
  ·have := Int.ediv_nonneg (show 0 <= j - i - 1 by omega) (show 0 <= c by omega); omega
  ·omega
 ·split
  ·have := Int.ediv_nonneg (show 0 <= i - j - 1 by omega) (show 0 <= -c by omega); omega
  ·omega
theorem size_le (i j c : Int) (h : -1000000 <= i /\ i <= 1000000 /\ -1000000 <= j /\ j <= 1000000 /\ c ≠ 0) : Builtin.Range.rangeSize i j c <= 2000000 := by
 unfold Builtin.Range.rangeSize
 split
 ·split
  ·have := Int.ediv_le_self (c) (show 0 <= j - i - 1 by omega); omega
  ·omega
 ·split
  ·have := Int.ediv_le_self (-c) (show 0 <= i - j - 1 by omega); omega
  ·omega
theorem OW {i j c : Int} (h : -1000000 <= i /\ i <= 1000000 /\ -1000000 <= j /\ j <= 1000000 /\ -1000000 <= c /\ c <= 1000000 /\ c ≠ 0) : Builtin.Range.small i j c = true := by
 have h1 := Hk i j c h.2.2.2.2.2.2
 have h2 := size_le i j c ⟨h.1, h.2.1, h.2.2.1, h.2.2.2.1, h.2.2.2.2.2.2⟩
 unfold Builtin.Range.small
 generalize Builtin.Range.rangeSize i j c = n at h1 h2 ⊢
 simp only [Builtin.Range.rangeFitsLong, Bool.and_eq_true, Bool.or_eq_true, decide_eq_true_eq, beq_iff_eq]
 refine ⟨by omega, .inr ?_⟩
 split <;> simp only [Bool.and_eq_true, decide_eq_true_eq] <;> omega
theorem OX {X : Cx} {tg a b c : Expr} {ta : TA} {p pos : Pos} (hg : Gl X "range") (hm : X.mg "range" = none) (ha : PA X [a, b, c] ta) (hs : starEach [a, b, c] X.env = (false, eval a X.env) :: starEach [b, c] X.env := by rfl) (cH : starEach [b, c] X.env = [(false, eval b X.env), (false, eval c X.env)] := by rfl) :
 PI X tg (.Call (.Name "range" p) [a, b, c] [] pos) (lQ ta) := by
 intro pins s σ H R I h
 refine Call_ (dX I hg hm boot_range (PyProof.Rows.callWith_type1 (aB (ha pos pins s σ H _ I h) fun us s1 ⟨vs, H1, I1, r1, q1⟩ => ?_) (by rw [hs]) (by rw [cH]; rfl)))
 obtain ⟨i, j, k, e, hb, q⟩ := q1
 subst e
 cases r1 with
 | cons r rr =>
  cases rr with
  | cons r' rr =>
   cases rr with
   | cons OY rr =>
    cases rr
    obtain ⟨t, rfl⟩ := r
    obtain ⟨t', rfl⟩ := r'
    obtain ⟨Hl, rfl⟩ := OY
    have hk : k ≠ 0 := hb.2.2.2.2.2.2
    refine call_range_3 hk ?_ (.inl (PyProof.noPylong_small (by omega)))
    refine wpAny_pyIter_range (IsRange.new ..) (OW hb) ?_
    have I2 : Inv X pins σ H1 { s1 with heap := s1.heap.push { cls := .type "range", data := .fields #[.int i t, .int j t', .int k Hl] }, toks := s1.toks } := I1.kept fun b o e => Heap.get?_push_of_some _ e
    refine ⟨_, [_], _, _, H1, rfl, I2.kept (t' := s1.toks) fun b o e => Heap.get?_push_of_some _ e, OV _ i k (ik i j k), ?_, fun b hb => ?_, q⟩
    ·have e1 : i + ((0 : Nat) : Int) * k = i := by simp
     have e2 : ((ik i j k : Nat) : Int) - ((0 : Nat) : Int) = Builtin.Range.rangeSize i j k := by
      have := Hk i j k hk
      unfold ik; omega
     show IsRangeIter _ _ (i + ((0 : Nat) : Int) * k) (((ik i j k : Nat) : Int) - ((0 : Nat) : Int)) k
     rw [e1, e2]
     exact Heap.get?_push_size _ rfl
    ·have e : b = (s1.heap.push { cls := .type "range", data := .fields #[.int i t, .int j t', .int k Hl] }).objs.size := by simpa using hb
     subst e
     exact I2.d9 (Nat.le_refl _) (I2.ar.fresh (Nat.le_refl _))
section
variable {g : TG} {tb : TS} {D : Ends} {σ : L2.St} {H : Hp} {lo st : Int} {n : Nat}
theorem t6 {ta : TA} : fO (lx ta) g tb D σ H = ta σ H (fun vs H1 => ∃ i j : Int, vs = [.int i, .int j] /\ (-(2 ^ 62) <= i /\ i < 2 ^ 62 /\ -(2 ^ 62) <= j /\ j < 2 ^ 62) /\ FJ (fg i (j - i).toNat) g tb D σ H1) := rfl
theorem t7 {ta : TA} : fO (lQ ta) g tb D σ H = ta σ H (fun vs H1 => ∃ i j c : Int, vs = [.int i, .int j, .int c] /\ (-1000000 <= i /\ i <= 1000000 /\ -1000000 <= j /\ j <= 1000000 /\ -1000000 <= c /\ c <= 1000000 /\ c ≠ 0) /\ FJ (t4 i c (ik i j c)) g tb D σ H1) := rfl
theorem OZ (Pv : Nat -> L2.St -> Hp -> Prop) (h0 : Pv 0 σ H)
 (hs : ∀ i σ H, i < n -> Pv i σ H -> g (.int (lo + (i : Int) * st)) σ H fun σ2 H2 => tb { D with nx := Pv (i + 1), ct := Pv (i + 1), bk := D.nx } σ2 H2) (hd : ∀ σ H, Pv n σ H -> D.nx σ H) : FJ (t4 lo st n) g tb D σ H := by
 refine ⟨fun i m σ H => m = n - i /\ i <= n /\ Pv i σ H, ⟨n, by simp, Nat.zero_le _, h0⟩, ?_⟩
 rintro i m σ H ⟨rfl, hi, p⟩
 by_cases a9 : i < n
 ·refine .inr ⟨a9, Pv (i + 1), fun σ' H' p' => ⟨n - (i + 1), by omega, rfl, a9, p'⟩, fun x H' y => ?_⟩
  obtain ⟨e, y⟩ := y
  subst e y
  exact hs i σ _ a9 p
 ·have e : i = n := by omega
  subst e
  exact .inl ⟨Nat.le_refl _, hd σ H p⟩
end
end Gz
namespace Gz
open PySem PySem.Spec PyProof.Rows L2
local macro_rules | `(tactic| walk_at "om") => `(tactic| ((try simp only [PySem.Addr] at *); omega))
section
variable {X : Cx} {pins : List (Addr × Obj)} {σ : L2.St} {H : Hp} {s : Shared} {h' : Heap}
theorem Hm {ch : List Addr} (I : Inv X pins σ H s) (k : ∀ b o, b ∉ ch -> s.heap.get? b = some o -> h'.get? b = some o) (hf : ∀ b ∈ ch, cp X pins H b) {H' : Hp} (up : ∀ b u, H b = some u -> H' b = some u) : ∀ b u, H b = some u -> bD X.prog X.w H' h' b u := by
 have gP : ∀ b u, H b = some u -> b ∉ ch := fun b u e z => by rw [(hf b z).1] at e; cases e
 intro b u e
 refine (I.ar b u e).dn (fun c v hc q => k c v ?_ q) (fun c q => up c _ q) fun c xs q => up c _ q
 rcases hc with z | z
 ·rw [z]; exact gP b u e
 ·exact gP c _ z
theorem Hn {t' : Nat} {ch : List Addr} (I : Inv X pins σ H s) (k : ∀ b o, b ∉ ch -> s.heap.get? b = some o -> h'.get? b = some o) (hf : ∀ b ∈ ch, cp X pins H b) : Inv X pins σ H { s with heap := h', toks := t' } := by
 refine I.step (g' := s.gens) (d' := s.drawn) (ch := ch) (fun b hb => ?_) (fun b o _ _ hc e _ => k b o hc e) (fun b o _ _ hc e _ => ⟨o.slots, k b o hc e⟩) (fun _ _ _ _ n => n)
  (fun b o hc e => ⟨o, k b o hc e⟩) (fun _ _ e => e) (fun _ _ _ e => e) (fun b ps e => ⟨#[], by rw [e]; simp⟩) (fun m hm => ?_) (fun b u e => Hm I k hf (fun _ _ q => q) b u e) I.bare
 ·obtain ⟨_, d1, d2, d3, d4, d5⟩ := hf b hb
  exact ⟨d3, d1, d4, d5⟩
 ·obtain ⟨o, es, ep, ho, r⟩ := hm
  exact ⟨o, es, ep, k _ o (fun z => (hf _ z).2.1 rfl) ho, r⟩
theorem Ho {t' : Nat} {ch : List Addr} {T : Addr} {o : HO} (I : Inv X pins σ H s) (k : ∀ b o, b ∉ ch -> s.heap.get? b = some o -> h'.get? b = some o) (hf : ∀ b ∈ ch, cp X pins H b) (hT : s.heap.objs.size <= T)
 (new : bD X.prog X.w (upd H T o) h' T o) : Inv X pins σ (upd H T o) { s with heap := h', toks := t' } := by
 have hn := I.ar.fresh hT
 have neT : ∀ b u, s.heap.get? b = some u -> b ≠ T := fun b u e => Nat.ne_of_lt (Nat.lt_of_lt_of_le (Heap.lt_size e) hT)
 have dE : ∀ b u, H b = some u -> b ≠ T := fun b u e => fb e hn
 have up : ∀ b u, H b = some u -> upd H T o b = some u := fun b u e => by rw [aH (dE b u e)]; exact e
 refine I.step (g' := s.gens) (d' := s.drawn) (ch := ch) (fun b hb => ?_) (fun b o _ _ hc e _ => k b o hc e) (fun b o _ _ hc e _ => ⟨o.slots, k b o hc e⟩) (fun b u _ e n => by rw [aH (neT b u e)]; exact n)
  (fun b o hc e => ⟨o, k b o hc e⟩) (fun b xs e => up b _ e) (fun b _ _ e => up b _ e) (fun b ps e => ⟨#[], by rw [up b _ e]; simp⟩) (fun m hm => ?_) (fun b u e => ?_) I.bare
 ·obtain ⟨_, d1, d2, d3, d4, d5⟩ := hf b hb
  exact ⟨d3, d1, d4, d5⟩
 ·obtain ⟨o, es, ep, ho, r⟩ := hm
  exact ⟨o, es, ep, k _ o (fun z => (hf _ z).2.1 rfl) ho, r⟩
 ·by_cases hb : b = T
  ·subst hb; rw [aq] at e; cases e; exact new
  ·rw [aH hb] at e
   exact Hm I k hf up b u e
end
noncomputable def t8 (K : PySem.W.Frag) (a : Addr) (n : Nat) : It :=
 ⟨fun i H => ∃ xs x, ah K H a xs /\ xs.length = n /\ xs.reverse[i]? = some x, fun i H x H' => H' = H /\ ∀ xs, ah K H a xs -> xs.length = n -> xs.reverse[i]? = some x, fun i _ => i = n⟩
theorem O0 {P : Program} {w : World} {K : PySem.W.Frag} {tg : Expr} (a it : Addr) (n : Nat) : Turn P w K tg (t8 K a n) [it] it (fun i h => i <= n /\ h.IsRevIter it a ((n : Int) - 1 - (i : Nat))) where
 mem := by simp
 obj := fun i h st b hb => by
  have e : b = it := by simpa using hb
  subst e
  obtain ⟨_, o, e, c, d⟩ := st
  exact ⟨o, e, fun v z => by rw [d] at z; cases z⟩
 keep := fun i h h' st k => ⟨st.1, st.2.at fun o e => k it (by simp) o e⟩
 item := by
  intro X hP hw hK hc i pins s σ H E I hf st hg
  subst hP hw hK
  obtain ⟨xs, x, hq, hn, hx⟩ := hg
  obtain ⟨ag, rv, p, hz⟩ := I.list hq
  have hl := rv.length
  have hi : i < n := by
   have := (List.getElem?_eq_some_iff.mp hx).1
   rw [List.length_reverse] at this; omega
  have bR : xs[n - 1 - i]? = some x := by
   rw [List.getElem?_reverse (by omega), hn] at hx; exact hx
  obtain ⟨u, hu, ru⟩ := rv.get bR
  obtain ⟨f0, f1, f2, f3, f4, f5⟩ := hf it (by simp)
  have bH := st.2
  rw [show (n : Int) - 1 - (i : Nat) = ((n - 1 - i : Nat) : Int) by omega] at bH
  refine wpAny_pyNext_rev_item bH p.isList (x := u) (by simpa using hu) fun h' bH sb => ?_
  have I1 : Inv X pins σ H { s with heap := h' } := I.turned (t' := s.toks) (fun b o hb e => (sb.2 b hb).trans e) f0 f1 f3 f4 f5
  obtain ⟨o, e, c, d⟩ := id bH
  rw [show ((n - 1 - i : Nat) : Int) - 1 = (n : Int) - 1 - ((i + 1 : Nat) : Int) by omega] at bH
  exact ⟨u, rfl, lh (s := { s with heap := h' }) e c d (by decide) ⟨x, H, I1, ru, ⟨rfl, fun ys hy _ => by rw [I.o8 hy hq]; exact hx⟩, ⟨by omega, bH⟩, fun b hb => (hf b hb).1⟩⟩
 done := by
  intro X hP hw hK hc i pins s σ H E I hf st hg
  subst hP hw hK
  have O2 : i = n := hg
  subst O2
  obtain ⟨f0, f1, f2, f3, f4, f5⟩ := hf it (by simp)
  have bH := st.2
  rw [show (i : Int) - 1 - (i : Nat) = -1 by omega] at bH
  exact wpAny_pyNext_rev_end (I.ok.hd hc) bH fun h' eb => ⟨rfl, I.turned (t' := s.toks) (fun b o hb e => eb b o hb e) f0 f1 f3 f4 f5⟩
 self := fun _ _ _ _ _ st h => wpAny_pyIter_revIter st.2 h
noncomputable def lR (K : PySem.W.Frag) (ta : TA) : TI := fun σ H R => ta σ H fun vs H1 => ∃ a xs, vs = [.ref a] /\ ah K H1 a xs /\ R (t8 K a xs.length) H1
theorem O3 {X : Cx} {tg e : Expr} {ta : TA} {p pos : Pos} (hg : Gl X "reversed") (hm : X.mg "reversed" = none) (ha : PA X [e] ta) (hs : starEach [e] X.env = [(false, eval e X.env)] := by rfl) : PI X tg (.Call (.Name "reversed" p) [e] [] pos) (lR X.K ta) := by
 intro pins s σ H R I h
 refine Call_ (dX I hg hm NQ (PyProof.Rows.callWith_type1 (aB (ha pos pins s σ H _ I h) fun us s1 ⟨vs, H1, I1, r1, q1⟩ => ?_) hs rfl))
 obtain ⟨a, xs, rfl, hq, q⟩ := q1
 obtain ⟨u, rfl, ru⟩ := vals1 r1
 cases ru
 obtain ⟨ag, rv, p, hz⟩ := I1.list hq
 refine call_reversed_list p.isList ?_
 have hl := rv.length
 refine wpAny_pyIter_revIter (i := (ag.toArray.size : Int) - 1) (l := a) ⟨_, Heap.get?_push_size _ rfl, rfl, rfl⟩ ?_
 refine ⟨s1.heap.objs.size, [s1.heap.objs.size], _, _, H1, rfl, I1.kept (t' := s1.toks) fun b o e => Heap.get?_push_of_some _ e, O0 a _ xs.length, ⟨Nat.zero_le _, _, Heap.get?_push_size _ rfl, rfl, ?_⟩, fun b hb => ?_, q⟩
 ·rw [List.size_toArray, <- hl]; simp; rfl
 ·have e : b = s1.heap.objs.size := by simpa using hb
  subst e
  exact I1.d9 (Nat.le_refl _) (I1.ar.fresh (Nat.le_refl _))
noncomputable def t9 (K : PySem.W.Frag) (a : Addr) : It :=
 ⟨fun i H => ∃ xs x, ah K H a xs /\ xs[i]? = some x, fun i H v H' => ∃ (p : Addr) (x : V), v = .ref p /\ H p = none /\ H' = upd H p (.tup [.int i, x]) /\ ∀ xs, ah K H a xs -> xs[i]? = some x, fun i H => ∃ xs, ah K H a xs /\ xs.length <= i⟩
theorem zC : 2 <= sizeLine := by decide
theorem O4 {P : Program} {w : World} {K : PySem.W.Frag} {es : List Expr} {k : Nat} {tp : Pos} (a e it : Addr) (Hq : e ≠ it) : Turn P w K (.Tuple es k tp) (t9 K a) [e, it] e (fun i h => (∃ old, IsEnum h e it (i : Nat) old) /\ h.IsListIter it a i) where
 mem := by simp
 obj := fun i h st b hb => by
  obtain ⟨⟨old, he⟩, o, ho, c, d⟩ := st
  have br : b = e ∨ b = it := by simpa using hb
  rcases br with rfl | rfl
  ·exact ⟨_, he, fun v z => by
    have z' : Data.fields _ = Data.cell v := z
    cases z'⟩
  ·exact ⟨o, ho, fun v z => by rw [d] at z; cases z⟩
 keep := fun i h h' st kk => by
  obtain ⟨⟨old, he⟩, hi⟩ := st
  exact ⟨⟨old, kk e (by simp) _ he⟩, hi.at fun o e => kk it (by simp) o e⟩
 item := by
  intro X hP hw hK hc i pins s σ H E I hf st hg
  subst hP hw hK
  obtain ⟨xs, x, hq, hx⟩ := hg
  obtain ⟨⟨old, he⟩, hit⟩ := st
  obtain ⟨ag, rv, p, hz⟩ := I.list hq
  obtain ⟨u, hu, ru⟩ := rv.get hx
  refine wpAny_pyNext_enum_item he hit p.isList (x := u) (by simpa using hu) Hq fun h1 ho O5 hT b7 hk => ?_
  refine ⟨_, rfl, wpAny_letOwnedTupleGo_enum ho fun h2 O6 cH => ?_⟩
  have zD : Heap.SameBut e h1 h2 := cH
  have neT : s.heap.objs.size ≠ e := Nat.ne_of_gt (Heap.lt_size he)
  have up : ∀ b o, b ∉ [e, it] -> s.heap.get? b = some o -> h2.get? b = some o := fun b o hb q => by
   have br : b ≠ e /\ b ≠ it := by simpa using hb
   exact zD.extBut b o br.1 (hk b o br.1 br.2 q)
  have hn : H s.heap.objs.size = none := I.ar.fresh (Nat.le_refl _)
  refine ⟨.ref s.heap.objs.size, upd H s.heap.objs.size (.tup [.int i, x]), Ho (s := s) (h' := h2) (t' := s.toks + 1) I up hf (Nat.le_refl _) ⟨zC, [.int i s.toks, u], .cons ⟨_, rfl⟩ (.cons ru .nil), ?_⟩, rfl, ⟨_, x, rfl, hn, rfl, fun ys hy => by rw [I.o8 hy hq]; exact hx⟩, ⟨⟨u, ?_⟩, ?_⟩, fun b hb => ?_⟩
  ·have := zD.extBut _ _ neT hT
   exact ⟨_, this, rfl, _, rfl⟩
  ·have : ((i : Int) + 1) = ((i + 1 : Nat) : Int) := by omega
   rw [<- this]; exact O6
  ·exact O5.at fun o q => zD.extBut _ _ (Ne.symm Hq) q
  ·rw [aH]
   ·exact (hf b hb).1
   ·have br : b = e ∨ b = it := by simpa using hb
    rcases br with rfl | rfl
    ·exact Ne.symm neT
    ·obtain ⟨o, q, _⟩ := hit
     exact Nat.ne_of_lt (Heap.lt_size q)
 done := by
  intro X hP hw hK hc i pins s σ H E I hf st hg
  subst hP hw hK
  obtain ⟨xs, hq, hx⟩ := hg
  obtain ⟨⟨old, he⟩, hit⟩ := st
  obtain ⟨ag, rv, p, hz⟩ := I.list hq
  have hl := rv.length
  refine wpAny_pyNext_enum_end (I.ok.hd hc) he hit p.isList (by simp; omega) fun h' eb => ⟨rfl, Hn (t' := s.toks) I (fun b o hb q => ?_) hf⟩
  have br : b ≠ e /\ b ≠ it := by simpa using hb
  exact eb b o br.2 q
 self := fun _ i s Q E st h => by
  obtain ⟨⟨old, he⟩, _⟩ := st
  exact wpAny_pyIter_enum he h
noncomputable def lS (K : PySem.W.Frag) (ta : TA) : TI := fun σ H R => ta σ H fun vs H1 => ∃ a, vs = [.ref a] /\ (∃ xs, ah K H1 a xs) /\ R (t9 K a) H1
theorem zE {X : Cx} {es : List Expr} {k : Nat} {tp : Pos} {e : Expr} {ta : TA} {p pos : Pos} (hg : Gl X "enumerate") (hm : X.mg "enumerate" = none) (ha : PA X [e] ta) (hs : starEach [e] X.env = [(false, eval e X.env)] := by rfl) : PI X (.Tuple es k tp) (.Call (.Name "enumerate" p) [e] [] pos) (lS X.K ta) := by
 intro pins s σ H R I h
 refine Call_ (dX I hg hm GK (PyProof.Rows.callWith_type1 (aB (ha pos pins s σ H _ I h) fun us s1 ⟨vs, H1, I1, r1, q1⟩ => ?_) hs rfl))
 obtain ⟨a, rfl, ⟨xs, hq⟩, q⟩ := q1
 obtain ⟨u, rfl, ru⟩ := vals1 r1
 cases ru
 obtain ⟨ag, rv, p, hz⟩ := I1.list hq
 refine call_enumerate_list p.isList fun h' he hit b7 hk => ?_
 refine wpAny_pyIter_enum he ?_
 have I2 : Inv X pins σ H1 { s1 with heap := h' } := I1.kept (t' := s1.toks) hk
 refine ⟨s1.heap.objs.size + 1, [s1.heap.objs.size + 1, s1.heap.objs.size], _, _, H1, rfl, I2, O4 a _ _ (by walk_at "om"), ⟨⟨.none, he⟩, hit⟩, fun b hb => ?_, q⟩
 have br : b = s1.heap.objs.size + 1 ∨ b = s1.heap.objs.size := by simpa using hb
 rcases br with rfl | rfl
 ·exact I1.d9 (Nat.le_succ _) (I1.ar.fresh (Nat.le_succ _))
 ·exact I1.d9 (Nat.le_refl _) (I1.ar.fresh (Nat.le_refl _))
noncomputable def ua (K : PySem.W.Frag) (a b : Addr) : It :=
 ⟨fun i H => ∃ xs ys x y, ah K H a xs /\ ah K H b ys /\ xs[i]? = some x /\ ys[i]? = some y, fun i H v H' => ∃ (p : Addr) (x y : V), v = .ref p /\ H p = none /\ H' = upd H p (.tup [x, y]) /\ (∀ xs, ah K H a xs -> xs[i]? = some x) /\ ∀ ys, ah K H b ys -> ys[i]? = some y,
  fun i H => ∃ xs ys, ah K H a xs /\ ah K H b ys /\ (xs.length <= i ∨ ys.length <= i)⟩
theorem O7 {P : Program} {w : World} {K : PySem.W.Frag} {es : List Expr} {k : Nat} {tp : Pos} (a b z TI TO i1 i2 : Addr) (D : ZipApart z TI TO i1 i2 a b) : Turn P w K (.Tuple es k tp) (ua K a b) [z, TI, TO, i1, i2] z
 (fun i h => IsZip h z TI TO .none /\ IsPair h TI (.ref i1) (.ref i2) /\ (∃ a b, IsPair h TO a b) /\ h.IsListIter i1 a i /\ h.IsListIter i2 b i) where
 mem := by simp
 obj := fun i h st c hc => by
  obtain ⟨hz, fz, ⟨ta, tb, fT⟩, ⟨o1, h1, c1, d1⟩, ⟨o2, h2, c2, d2⟩⟩ := st
  have jU : c = z ∨ c = TI ∨ c = TO ∨ c = i1 ∨ c = i2 := by simpa using hc
  rcases jU with rfl | rfl | rfl | rfl | rfl
  ·exact ⟨_, hz, fun v q => by
    have q' : Data.fields _ = Data.cell v := q
    cases q'⟩
  ·exact ⟨_, fz, fun v q => by
    have q' : Data.seq _ _ = Data.cell v := q
    cases q'⟩
  ·exact ⟨_, fT, fun v q => by
    have q' : Data.seq _ _ = Data.cell v := q
    cases q'⟩
  ·exact ⟨o1, h1, fun v q => by rw [d1] at q; cases q⟩
  ·exact ⟨o2, h2, fun v q => by rw [d2] at q; cases q⟩
 keep := fun i h h' st kk => by
  obtain ⟨hz, fz, ⟨ta, tb, fT⟩, h1, h2⟩ := st
  exact ⟨kk z (by simp) _ hz, kk TI (by simp) _ fz, ⟨ta, tb, kk TO (by simp) _ fT⟩, h1.at fun o e => kk i1 (by simp) o e, h2.at fun o e => kk i2 (by simp) o e⟩
 item := by
  intro X hP hw hK hc i pins s σ H E I hf st hg
  subst hP hw hK
  obtain ⟨xs, ys, x, y, hqx, hqy, hx, hy⟩ := hg
  obtain ⟨hz, fz, ⟨ta, tb, fT⟩, h1, h2⟩ := st
  obtain ⟨ag, rv, p1, _⟩ := I.list hqx
  obtain ⟨jts, uc, p2, _⟩ := I.list hqy
  obtain ⟨u, hu, ru⟩ := rv.get hx
  obtain ⟨v, hv, O8⟩ := uc.get hy
  refine wpAny_pyNext_zip_item D hz fz fT h1 h2 p1.isList p2.isList (x := u) (y := v) (by simpa using hu) (by simpa using hv) fun h' z1 t1 l1 l2 pT b7 hk => ?_
  refine ⟨_, rfl, wpAny_letOwnedTupleGo_zip z1 fun h3 z3 O9 => ?_⟩
  have lT : Heap.SameBut z h' h3 := O9
  have neT : s.heap.objs.size ≠ z := Nat.ne_of_gt (Heap.lt_size hz)
  have up : ∀ b o, b ∉ [z, TI, TO, i1, i2] -> s.heap.get? b = some o -> h3.get? b = some o := fun b o hb q => by
   have br : b ≠ z /\ b ≠ TI /\ b ≠ TO /\ b ≠ i1 /\ b ≠ i2 := by simpa using hb
   exact lT.extBut b o br.1 (hk b o br.1 br.2.2.1 br.2.2.2.1 br.2.2.2.2 q)
  have hn : H s.heap.objs.size = none := I.ar.fresh (Nat.le_refl _)
  refine ⟨.ref s.heap.objs.size, upd H s.heap.objs.size (.tup [x, y]), Ho (s := s) (h' := h3) (t' := s.toks) I up hf (Nat.le_refl _) ⟨zC, [u, v], .cons ru (.cons O8 .nil), ?_⟩, rfl, ⟨_, x, y, rfl, hn, rfl, fun zs zF => by rw [I.o8 zF hqx]; exact hx, fun zs zF => by rw [I.o8 zF hqy]; exact hy⟩,
   ⟨z3, lT.extBut _ _ D.TIz (hk _ _ D.TIz D.TITO D.TIi1 D.TIi2 fz), ⟨_, _, lT.extBut _ _ D.TOz t1⟩, l1.at fun o q => lT.extBut _ _ D.i1z q, l2.at fun o q => lT.extBut _ _ D.i2z q⟩, fun b hb => ?_⟩
  ·have := lT.extBut _ _ neT pT
   exact ⟨_, this, rfl, _, rfl⟩
  ·rw [aH]
   ·exact (hf b hb).1
   ·have br : b = z ∨ b = TI ∨ b = TO ∨ b = i1 ∨ b = i2 := by simpa using hb
    rcases br with rfl | rfl | rfl | rfl | rfl
    ·exact Ne.symm neT
    ·exact Nat.ne_of_lt (Heap.lt_size fz)
    ·exact Nat.ne_of_lt (Heap.lt_size fT)
    ·obtain ⟨o, q, _⟩ := h1
     exact Nat.ne_of_lt (Heap.lt_size q)
    ·obtain ⟨o, q, _⟩ := h2
     exact Nat.ne_of_lt (Heap.lt_size q)
 done := by
  intro X hP hw hK hc i pins s σ H E I hf st hg
  subst hP hw hK
  obtain ⟨xs, ys, hqx, hqy, hx⟩ := hg
  obtain ⟨hz, fz, ⟨ta, tb, fT⟩, h1, h2⟩ := st
  obtain ⟨ag, rv, p1, _⟩ := I.list hqx
  obtain ⟨jts, uc, p2, _⟩ := I.list hqy
  have l1 := rv.length
  have l2 := uc.length
  refine wpAny_pyNext_zip_end (I.ok.hd hc) D hz fz fT h1 h2 p1.isList p2.isList (hx.imp (fun q => by simp; omega) fun q => by simp; omega) fun h' hk => ⟨rfl, Hn (t' := s.toks) I (fun b o hb q => ?_) hf⟩
  have br : b ≠ z /\ b ≠ TI /\ b ≠ TO /\ b ≠ i1 /\ b ≠ i2 := by simpa using hb
  exact hk b o br.1 br.2.2.1 br.2.2.2.1 br.2.2.2.2 q
 self := fun _ i s Q E st h => wpAny_pyIter_zip st.1 h
noncomputable def lU (K : PySem.W.Frag) (ta : TA) : TI := fun σ H R => ta σ H fun vs H1 => ∃ a b, vs = [.ref a, .ref b] /\ (∃ xs, ah K H1 a xs) /\ (∃ ys, ah K H1 b ys) /\ R (ua K a b) H1
theorem Pb {X : Cx} {es : List Expr} {k : Nat} {tp : Pos} {e f : Expr} {ta : TA} {p pos : Pos} (hg : Gl X "zip") (hm : X.mg "zip" = none) (ha : PA X [e, f] ta) (hs : starEach [e, f] X.env = (false, eval e X.env) :: starEach [f] X.env := by rfl) (cH : starEach [f] X.env = [(false, eval f X.env)] := by rfl) : PI X (.Tuple es k tp) (.Call (.Name "zip" p) [e, f] [] pos) (lU X.K ta) := by
 intro pins s σ H R I h
 refine Call_ (dX I hg hm NP (PyProof.Rows.callWith_type1 (aB (ha pos pins s σ H _ I h) fun us s1 ⟨vs, H1, I1, r1, q1⟩ => ?_) hs (by rw [cH]; rfl)))
 obtain ⟨a, b, rfl, ⟨xs, hqx⟩, ⟨ys, hqy⟩, q⟩ := q1
 obtain ⟨u, v, rfl, ru, Pc⟩ := vals2 r1
 cases ru
 cases Pc
 obtain ⟨ag, rv, p1, _⟩ := I1.list hqx
 obtain ⟨jts, uc, p2, _⟩ := I1.list hqy
 have a1 : a < s1.heap.objs.size := by obtain ⟨_, e, _⟩ := p1.isList; exact Heap.lt_size e
 have a2 : b < s1.heap.objs.size := by obtain ⟨_, e, _⟩ := p2.isList; exact Heap.lt_size e
 refine call_zip_2 p1.isList p2.isList fun h' hz fz fT h1 h2 b7 hk => ?_
 refine wpAny_pyIter_zip hz ?_
 have I2 : Inv X pins σ H1 { s1 with heap := h' } := I1.kept (t' := s1.toks) hk
 refine ⟨s1.heap.objs.size + 4, [s1.heap.objs.size + 4, s1.heap.objs.size + 2, s1.heap.objs.size + 3, s1.heap.objs.size, s1.heap.objs.size + 1], _, _, H1, rfl, I2, O7 a b _ _ _ _ _ (zipApart_new a1 a2), ⟨hz, fz, ⟨_, _, fT⟩, h1, h2⟩, fun c hc => ?_, q⟩
 have jU : s1.heap.objs.size <= c := by
  simp only [List.mem_cons, List.not_mem_nil, or_false] at hc
  walk_at "om"
 exact I1.d9 jU (I1.ar.fresh jU)
section
variable {X : Cx}
end
section
variable {K : PySem.W.Frag} {g : TG} {tb : TS} {D : Ends} {σ : L2.St} {H : Hp} {a b : Addr} {xs ys : List V}
theorem ud {ta : TA} : fO (lR K ta) g tb D σ H = ta σ H (fun vs H1 => ∃ a xs, vs = [.ref a] /\ ah K H1 a xs /\ FJ (t8 K a xs.length) g tb D σ H1) := rfl
theorem ue {ta : TA} : fO (lS K ta) g tb D σ H = ta σ H (fun vs H1 => ∃ a, vs = [.ref a] /\ (∃ xs, ah K H1 a xs) /\ FJ (t9 K a) g tb D σ H1) := rfl
theorem uf {ta : TA} : fO (lU K ta) g tb D σ H = ta σ H (fun vs H1 => ∃ a b, vs = [.ref a, .ref b] /\ (∃ xs, ah K H1 a xs) /\ (∃ ys, ah K H1 b ys) /\ FJ (ua K a b) g tb D σ H1) := rfl
theorem zG (Pv : Nat -> L2.St -> Hp -> Prop) (h0 : Pv 0 σ H) (hl : ∀ i σ H, i <= xs.length -> Pv i σ H -> ah K H a xs)
 (hs : ∀ i x σ H p, xs[i]? = some x -> Pv i σ H -> H p = none -> g (.ref p) σ (upd H p (.tup [.int i, x])) fun σ2 H2 => tb { D with nx := Pv (i + 1), ct := Pv (i + 1), bk := D.nx } σ2 H2) (hd : ∀ σ H, Pv xs.length σ H -> D.nx σ H) : FJ (t9 K a) g tb D σ H := by
 refine ⟨fun i m σ H => m = xs.length - i /\ i <= xs.length /\ Pv i σ H, ⟨_, rfl, Nat.zero_le _, h0⟩, ?_⟩
 rintro i m σ H ⟨rfl, hi, p⟩
 have q := hl i σ H hi p
 by_cases a9 : i < xs.length
 ·refine .inr ⟨⟨xs, xs[i], q, by simp [a9]⟩, Pv (i + 1), fun σ' H' p' => ⟨xs.length - (i + 1), by omega, rfl, a9, p'⟩, fun v H' y => ?_⟩
  obtain ⟨w, x, rfl, hw, rfl, y⟩ := y
  exact hs i x σ _ w (y xs q) p hw
 ·have e : i = xs.length := by omega
  subst e
  exact .inl ⟨⟨xs, q, Nat.le_refl _⟩, hd σ H p⟩
theorem Pd (Pv : Nat -> L2.St -> Hp -> Prop) (h0 : Pv 0 σ H) (hl : ∀ i σ H, Pv i σ H -> ah K H a xs /\ ah K H b ys)
 (hs : ∀ i x y σ H p, xs[i]? = some x -> ys[i]? = some y -> Pv i σ H -> H p = none -> g (.ref p) σ (upd H p (.tup [x, y])) fun σ2 H2 => tb { D with nx := Pv (i + 1), ct := Pv (i + 1), bk := D.nx } σ2 H2) (hd : ∀ σ H, Pv (min xs.length ys.length) σ H -> D.nx σ H) : FJ (ua K a b) g tb D σ H := by
 refine ⟨fun i m σ H => m = min xs.length ys.length - i /\ i <= min xs.length ys.length /\ Pv i σ H, ⟨_, rfl, Nat.zero_le _, h0⟩, ?_⟩
 rintro i m σ H ⟨rfl, hi, p⟩
 have q := hl i σ H p
 by_cases a9 : i < min xs.length ys.length
 ·have h1 : i < xs.length := by omega
  have h2 : i < ys.length := by omega
  refine .inr ⟨⟨xs, ys, xs[i], ys[i], q.1, q.2, by simp [h1], by simp [h2]⟩, Pv (i + 1), fun σ' H' p' => ⟨min xs.length ys.length - (i + 1), by omega, rfl, a9, p'⟩, fun v H' y => ?_⟩
  obtain ⟨w, x, y', rfl, hw, rfl, e1, e2⟩ := y
  exact hs i x y' σ _ w (e1 xs q.1) (e2 ys q.2) p hw
 ·have e : i = min xs.length ys.length := by omega
  refine .inl ⟨⟨xs, ys, q.1, q.2, by omega⟩, hd σ H (e ▸ p)⟩
end
theorem km {K : PySem.W.Frag} {i j : Nat} {p : Addr} {x y : V} {σ : L2.St} {H : Hp} {Q : L2.St -> Hp -> Prop} (h : ai K H p [x, y]) (q : Q ((σ.set i (some x)).set j (some y)) H) : jX K 2 (cf (b6 i) (cf (b6 j) ff)) (.ref p) σ H Q :=
 ⟨p, [x, y], rfl, h, rfl, x, [y], rfl, y, [], rfl, rfl, q⟩
end Gz
namespace Gz
open PySem PySem.Spec PyProof.Rows L2
local macro_rules | `(tactic| walk_at "om") => `(tactic| ((try simp only [PySem.Addr] at *); omega))
structure qF (X : Cx) (own : List Str) (scope : Scope) (cl : List (Str × Addr)) (fr : List Nat) (ys : List Str) : Prop where
 clos : closureFor scope X.env = pure cl
 nocell : (scope.names.all fun p => p.2 != .cell) = true
 kind : scope.kind = .function
 names : (scope.names.all fun p => p.2 != .local || scope.names.lookup p.1 == some .local) = true
 kinds : ((relabel scope X.env).names.all fun p => (p.2 != .cell && p.2 != .free) || (cl.lookup p.1).isSome) = true
 cls : ka X cl
 aT : gD X scope cl fr ys
 kfr : (ys.all fun y => (relabel scope X.env).names.lookup y == some .cell) = true
noncomputable def ug (k : Nat) (J : It) (g : TG) (ρ : L2.St) (tt : TT) (te : TE) (H : Hp) (Q : VK) : Prop := ∃ W : Nat -> Nat -> List V -> Hp -> Prop, (∃ m, W 0 m [] H) /\ ∀ i m ys H, W i m ys H ->
 (J.stop i H /\ ys.length <= sizeLine /\ ∀ l, H l = none -> Q (.ref l) (upd H l (.lst ys))) ∨ (J.go i H /\ ys.length < sizeLine /\ ∃ N : List V -> Hp -> Prop, (∀ zs H', N zs H' -> ∃ m', m' < m /\ W (i + 1) m' zs H') /\
  ∀ os : List (Option V), os.length = k -> ∀ x H', J.yld i H x H' -> g x (os ++ ρ) H' fun σ2 H2 => ∃ sC, sC.length = k /\ σ2 = sC ++ ρ /\ tt σ2 H2 fun b H1 => if b = true then te σ2 H1 fun y H2 => N (ys ++ [y]) H2 else N ys H1)
noncomputable def qG (k : Nat) (wi : TI) (g : TG) (fr : List Nat) (tt : TT) (te : TE) : TE := fun σ H Q => wi σ H fun J H1 => ug k J g (fr.map fun j => (σ[j]?).join) tt te H1 Q
theorem Pe {prog : Program} {w : World} {A : Around} {s : Shared} {R : Result -> Shared -> Prop} {elt target iter : Expr} {ifs : List Expr} {scope : Scope} {pos : Pos} {it acc : Value} {env : Env} (I : Nat -> Shared -> Prop)
 (turn : ∀ n s, I n s -> wpAny (model prog w) A (pyNext it) (fun r s₁ => match r with
   | none => R (.ok .next) s₁
   | some v => wpAny (model prog w) A (letOwnedTupleGo target it v) (fun _ Hr => wpAny (model prog w) A (assign target env v) (fun _ s₂ =>
    wpAny (model prog w) A (forIn ifs true fun c r => if r = true then do let ok <- isTrue c env (eval c env); pure (ForInStep.yield ok) else pure (ForInStep.yield r)) (fun ok s₃ =>
     if ok = true then wpAny (model prog w) A (eval elt env) (fun x s₄ =>
      wpAny (model prog w) A (call (.builtin "list.append") [acc, x]) (fun _ s₅ => ∃ m, m < n /\ I m s₅) (notedBy (model prog w) A env fun e s' => R (.error e) s') s₄) (notedBy (model prog w) A env fun e s' => R (.error e) s') s₃
     else ∃ m, m < n /\ I m s₃) (notedBy (model prog w) A env fun e s' => R (.error e) s') s₂) (notedBy (model prog w) A env fun e s' => R (.error e) s') Hr) (notedBy (model prog w) A env fun e s' => R (.error e) s') s₁) (notedBy (model prog w) A env fun e s' => R (.error e) s') s)
 (n : Nat) (h : I n s) :
 codeAny (model prog w) A (.compLoop (.ListComp elt [⟨target, iter, ifs, 0⟩] scope pos) 0 it acc env) R s := by
 refine codeAny_loop rfl I (fun n s hI => ?_) n h
 show wpAny _ A ((compTurn (.ListComp elt [⟨target, iter, ifs, 0⟩] scope pos) 0 it acc env).onRaise (fun x => do noteFrame x env; theTreesLotGoes x)) _ _ s
 refine wpAny_noted ?_
 rw [compTurn_list]
 refine wpAny_bind (wpAny_standAt (wpAny_bind (wpAny_mono (turn n s hI) (fun r s₁ h₁ => ?_) fun _ _ h' => h')))
 cases r with
 | none => exact wpAny_pure h₁
 | some v =>
  refine wpAny_bind (wpAny_mono h₁ (fun _ Hr Pf => ?_) fun _ _ h' => h')
  refine wpAny_bind (wpAny_mono Pf (fun _ s₂ h₂ => wpAny_bind (wpAny_mono h₂ (fun ok s₃ h₃ => ?_) fun _ _ h' => h')) fun _ _ h' => h')
  cases ok with
  | false => exact wpAny_pure ⟨rfl, h₃⟩
  | true =>
   exact wpAny_bind (wpAny_bind (wpAny_mono h₃ (fun x s₄ h₄ => wpAny_bind (wpAny_mono h₄ (fun _ s₅ h₅ => wpAny_pure (wpAny_pure ⟨rfl, h₅⟩)) fun _ _ h' => h')) fun _ _ h' => h'))
section
variable {X : Cx} {pins : List (Addr × Obj)} {σ : L2.St} {H2 : Hp} {s2 : Shared} {own : List Str} {tg : Expr} {g : TG} {pos : Pos} {elt iter : Expr} {ifs : List Expr} {scope : Scope} {cl : List (Str × Addr)} {fr : List Nat} {ys : List Str} {tt : TT} {te : TE}
theorem Pg {C : Addr} {ex : List Addr} {pn : List (Addr × Obj)} (S : qF X own scope cl fr ys) (I2 : Inv X pins σ H2 s2) (f2 : ∀ b ∈ ex, cp X pins H2 b) (hC : s2.heap.objs.size <= C) (hex : ∀ b ∈ ex, b < s2.heap.objs.size) : (bu X (own ++ ys) scope cl C s2 H2 ex pn).Ok := by
 refine ⟨I2.ok.mod, S.kind, I2.ok.glob, I2.ok.blt, hC, fun a b c h1 h2 => ?_, fun y hy => ?_, fun _ _ z => (nomatch z), I2.ok.hd, I2.ok.frames, .inl rfl, fun b hb => ⟨?_, fun y c e z => ?_⟩, I2.bs, Nat.le_trans I2.ok.bsz I2.sz, fun b o e hb => ?_, fun b hb z => ?_, I2.stack, I2.k6⟩
 ·exact I2.ok.inj a b c (S.cls.get a c h1) (S.cls.get b c h2)
 ·have zj : (relabel scope X.env).names.lookup y = some .cell ∨ (relabel scope X.env).names.lookup y = some .free := hy
  have q : (cl.lookup y).isSome = true := by
   rcases zj with e | e
   ·simpa using tS S.kinds e
   ·simpa using tS S.kinds e
  exact Option.isSome_iff_exists.mp q
 ·exact Nat.ne_of_lt (Nat.lt_of_lt_of_le (hex b hb) hC)
 ·exact (f2 b hb).2.2.2.2.1 y c (S.cls.get y c e) z
 ·obtain ⟨_, _, _, d, _, _⟩ := f2 b hb
  rcases d with d | d
  ·exact I2.ok.noex b o e d
  ·exact absurd (Nat.lt_of_lt_of_le (Heap.lt_size e) (Nat.le_trans I2.ok.bsz d)) (Nat.lt_irrefl _)
 ·obtain ⟨_, d1, d2, _⟩ := f2 b hb
  rcases List.mem_cons.mp (I2.fI b z) with q | q
  ·exact d1 q
  ·exact d2 q
theorem Ph {J : It} {fp : List Addr} {it : Addr} {tn : Nat -> Heap -> Prop} {E : Value -> Shared -> Prop} {Q : VK} {RR : Value -> Addr -> Result -> Shared -> Prop}
 (S : qF X own scope cl fr ys) (hc : X.calm = true) (hg : ∀ (C : Addr) (s : Shared) (H : Hp) (ex : List Addr) (pn : List (Addr × Obj)), PG (bu X (own ++ ys) scope cl C s H ex pn) tg g)
 (hb : ∀ (C : Addr) (s : Shared) (H : Hp) (ex : List Addr) (pn : List (Addr × Obj)), kc (bu X (own ++ ys) scope cl C s H ex pn) ifs tt /\ PE (bu X (own ++ ys) scope cl C s H ex pn) elt te)
 (I2 : Inv X pins σ H2 s2) (T : Turn X.prog X.w X.K tg J fp it tn) (dv : tn 0 s2.heap) (f2 : ∀ b ∈ fp, cp X pins H2 b)
 (h : ug own.length J g (fr.map fun j => (σ[j]?).join) tt te H2 Q)
 (zk : ∀ D C s' H', Inv X pins σ H' s' -> (∃ m, s'.heap.Ns C m) -> cp X pins H' C -> Q (.ref D) H' -> RR (.ref D) C (.ok .next) s') :
 wpAny (model X.prog X.w) X.A (newList []) (fun acc s3 => wpAny (model X.prog X.w) X.A (newFunctionEnv scope X.env.globals cl [] X.env.qual none .none (some X.env)) (fun qr s4 =>
  codeAny (model X.prog X.w) X.A (.compStart (.ListComp elt [⟨tg, iter, ifs, 0⟩] scope pos) 0 (.ref it) acc { qr with scope := relabel scope X.env }) (RR acc qr.locals) s4) E s3) E s2 := by
 obtain ⟨W, ⟨m0, w0⟩, turn⟩ := h
 refine wpAny_newObj_type (wpAny_newFunctionEnv (fun y hy => by simpa using List.all_eq_true.mp S.nocell y hy) (fun y hy => absurd hy (by simp)) (fun h1 eQ fu => ?_) S.kind)
 dsimp only at eQ fu ⊢
 generalize eP : s2.heap.push { cls := .type "list", dict := none, data := .seq ([] : List Value).toArray } = P2 at eQ fu ⊢
 have sz : P2.objs.size = s2.heap.objs.size + 1 := by rw [<- eP, Heap.size_push]
 have eh : s2.heap.objs.size ≠ P2.objs.size := by walk_at "om"
 have keep : ∀ b o, s2.heap.get? b = some o -> h1.get? b = some o := fun b o e => by
  have lt := Heap.lt_size e
  exact fu.extBut b o (by walk_at "om") (Heap.get?_push_of_some _ (eP ▸ Heap.get?_push_of_some _ e))
 have hD : h1.get? s2.heap.objs.size = some { cls := .type "list", data := .seq ([] : List Value).toArray 0 } :=
  fu.extBut _ _ eh (Heap.get?_push_of_some _ (eP ▸ Heap.get?_push_size _ rfl))
 have dD : ∀ b ∈ fp, b < s2.heap.objs.size := fun b hb => by
  obtain ⟨o, e, _⟩ := T.obj 0 _ dv b hb
  exact Heap.lt_size e
 have qt : ∀ b, s2.heap.objs.size <= b -> b ∉ aT X.stack := fun b hle z => by
  rcases List.mem_cons.mp (I2.fI b z) with q | q
  ·have := I2.lt; walk_at "om"
  ·exact I2.yw hle q
 generalize eC : P2.objs.size = C at eQ fu eh ⊢
 generalize eD : s2.heap.objs.size = D at eh hD dD qt
 have kf : s2.heap.objs.size <= C := by walk_at "om"
 have qu : s2.heap.objs.size <= D := by walk_at "om"
 have zm : (bu X (own ++ ys) scope cl C s2 H2 fp (X.pn ++ pins)).Ok := Pg S I2 f2 kf (fun b hb => by have := dD b hb; walk_at "om")
 have qv : ∀ p ∈ X.pn ++ pins, p.1 ≠ C /\ p.1 ≠ D /\ p.1 ∉ aT X.stack /\ ∀ b ∈ fp, p.1 ≠ b := fun p hp => by
  obtain ⟨e, n, nL, nf, _⟩ := I2.pin p hp
  have lt := Heap.lt_size e
  refine ⟨by walk_at "om", by walk_at "om", fun z => ?_, fun b hb => (f2 b hb).2.2.2.2.2 p hp⟩
  rcases List.mem_cons.mp (I2.fI _ z) with q | q
  ·exact nL q
  ·exact nf q
 have I4 : Inv (bu X (own ++ ys) scope cl C s2 H2 fp (X.pn ++ pins)) [] ((own.map fun _ => none) ++ fr.map fun j => (σ[j]?).join) H2 { s2 with heap := h1, toks := s2.toks + ([] : List (Str × Value)).length } := by
  refine ⟨zm, rfl, I2.bare, Un.kept keep, ⟨_, eQ, fun i y v e1 e2 e3 => ?_⟩, fun y c e => ?_, I2.ar.fresh kf, fun y c e => I2.cS y c (S.cls.get y c e), fun p hp => ?_, I2.ar.kept keep, ?_⟩
  ·by_cases hio : i < own.length
   ·rw [List.getElem?_append_left (by simpa using hio)] at e2
    simp [hio] at e2
   ·rw [List.getElem?_append_right (by simp; omega)] at e2
    have qw : ys[i - own.length]? = some y := by
     have : (own ++ ys)[i]? = some y := e1
     rwa [List.getElem?_append_right (by omega)] at this
    rw [List.length_map] at e2
    obtain ⟨j, c, hN, hσ, hk, qx, gX⟩ := S.aT.get (i - own.length) y v qw e2
    obtain ⟨m, hm, hl⟩ := I2.loc
    obtain ⟨u, ru, lu⟩ := hl j y v hN hσ (.inr (.inl hk))
    refine ⟨u, ru, .inr ⟨.inl ?_, c, qx, ?_⟩⟩
    ·have z := List.all_eq_true.mp S.kfr y (List.mem_of_getElem? qw)
     exact (by simpa using z : (relabel scope X.env).names.lookup y = some .cell)
    ·rcases lu with ⟨z, _⟩ | ⟨_, c', e', q'⟩
     ·rw [hk] at z; cases z
     ·rw [gX] at e'; cases e'
      obtain ⟨o, ho, hd⟩ := q'
      exact ⟨o, keep _ _ ho, hd⟩
  ·obtain ⟨v, o, ho, hd⟩ := I2.cell y c (S.cls.get y c e)
   exact ⟨v, o, keep _ _ ho, hd⟩
  ·have cQ : p ∈ X.pn ++ pins := by
    have : p ∈ (X.pn ++ pins) ++ [] := hp
    simpa using this
   obtain ⟨e, n, _, _, d⟩ := I2.pin p cQ
   obtain ⟨p1, _, p3, _⟩ := qv p cQ
   exact ⟨keep _ _ e, n, p1, p3, d⟩
  ·show ((own.map fun _ => (none : Option V)) ++ fr.map fun j => (σ[j]?).join).length = (own ++ ys).length
   simp [S.aT.len]
 have qy : tn 0 h1 := T.keep 0 _ _ dv fun b _ o e => keep b o e
 have kg : ∀ (H' : Hp) (o : Obj), (∀ b ∈ fp, H' b = none) -> ∀ b ∈ fp, cp (bu X (own ++ ys) scope cl C s2 H2 fp (X.pn ++ pins)) [(D, o)] H' b := fun H' o hn b hb => by
  obtain ⟨_, d1, d2, d3, d4, d5⟩ := f2 b hb
  have lt := dD b hb
  refine ⟨hn b hb, ?_, fun z => ?_, .inl hb, fun y c e => d4 y c (S.cls.get y c e), fun p hp => ?_⟩
  ·show b ≠ C
   walk_at "om"
  ·rcases List.mem_cons.mp (I2.fI b z) with q | q
   ·exact d1 q
   ·exact d2 q
  ·have cQ : p ∈ (X.pn ++ pins) ++ [(D, o)] := hp
   rcases List.mem_append.mp cQ with z | z
   ·exact d5 p z
   ·have : p = (D, o) := by simpa using z
    subst this
    show D ≠ b
    walk_at "om"
 have loop : ∀ s' : Shared, s' = { s2 with heap := h1, toks := s2.toks + ([] : List (Str × Value)).length } ->
  codeAny (model X.prog X.w) X.A (.compLoop (.ListComp elt [⟨tg, iter, ifs, 0⟩] scope pos) 0 (.ref it) (.ref D) (compEnvC scope cl C X.env)) (RR (.ref D) C) s' := by
  rintro s' rfl
  refine Pe (fun n s' => ∃ i zs H' os ag nn, os.length = own.length /\ Inv (bu X (own ++ ys) scope cl C s2 H2 fp (X.pn ++ pins)) [] (os ++ fr.map fun j => (σ[j]?).join) H' s' /\ tn i s'.heap /\ (∀ b ∈ fp, H' b = none) /\ H' D = none /\
   s'.heap.get? D = some { cls := .type "list", data := .seq (ag : List Value).toArray nn } /\ Vals zs ag /\ W i n zs H') ?_ m0 ⟨0, [], H2, own.map fun _ => none, [], 0, by simp, I4, qy, fun b hb => (f2 b hb).1, I2.ar.fresh qu, hD, .nil, w0⟩
  rintro n s3 ⟨i, zs, H3, Hs, ag, nn, Pj, I3, gS, gT, kh, zo, r3, w3⟩
  have qz : Inv (bu X (own ++ ys) scope cl C s2 H2 fp (X.pn ++ pins)) [(D, { cls := .type "list", data := .seq ag.toArray nn })] (Hs ++ fr.map fun j => (σ[j]?).join) H3 s3 := I3.jT fun p hp => by
   have : p = (D, { cls := .type "list", data := .seq ag.toArray nn }) := by simpa using hp
   subst this
   exact ⟨zo, kh, eh, qt D (Nat.le_refl _), fun v z => nomatch z⟩
  rcases turn i n zs H3 w3 with ⟨stop, hlen, q⟩ | ⟨go, hlen, N, qA, step⟩
  ·refine wpAny_mono (T.done (bu X (own ++ ys) scope cl C s2 H2 fp (X.pn ++ pins)) rfl rfl rfl hc i _ s3 _ H3 (fun _ _ => False) qz (kg H3 _ gT) gS stop) (fun r s4 ⟨hr, J4⟩ => ?_) fun _ _ z => z.elim
   subst hr
   have un := J4.base
   have zp : ∀ b o, s2.heap.get? b = some o -> b ≠ D := fun b o e => by have := Heap.lt_size e; walk_at "om"
   have dE : ∀ b u, H3 b = some u -> b ≠ D := fun b u e z => by rw [z, kh] at e; cases e
   refine zk D C s4 (upd H3 D (.lst zs)) ?_ ?_ ?_ (q D kh)
   ·refine I2.sj (ch := fp) J4.os ⟨un.keep, un.slot, fun b o e nn hx => ?_, un.there, fun b xs e => ?_, fun b o u e => ?_, fun b ps e => ?_⟩ (fun a o e => ?_) J4.bare fun b hb => ?_
    ·rw [aH (zp b o e)]; exact un.free b o e nn hx
    ·have := un.cb b xs e; rw [aH (dE b _ this)]; exact this
    ·have := un.cc b o u e; rw [aH (dE b _ this)]; exact this
    ·obtain ⟨more, this⟩ := un.cB b ps e
     exact ⟨more, by rw [aH (dE b _ this)]; exact this⟩
    ·by_cases ha : a = D
     ·subst ha
      rw [aq] at e; cases e
      exact ⟨hlen, ag, nn, r3, (J4.pin (a, _) (List.mem_append_right _ (List.mem_singleton.mpr rfl))).1⟩
     ·rw [aH ha] at e
      exact (J4.ar a o e).dn (fun _ _ _ z => z) (fun b z => by rw [aH (dE b _ z)]; exact z) fun b xs z => by rw [aH (dE b _ z)]; exact z
    ·obtain ⟨_, d1, d2, d3, d4, d5⟩ := f2 b hb
     exact ⟨d3, d1, d4, d5⟩
   ·obtain ⟨m, hm, _⟩ := J4.loc
    exact ⟨m, hm⟩
   ·exact I2.d9 kf (by rw [aH (Ne.symm eh)]; exact J4.free)
  ·refine wpAny_mono (T.item (bu X (own ++ ys) scope cl C s2 H2 fp (X.pn ++ pins)) rfl rfl rfl hc i _ s3 _ H3 (fun _ _ => False) qz (kg H3 _ gT) gS go) (fun r s4 ⟨u, hr, h4⟩ => ?_) fun _ _ z => z.elim
   subst hr
   refine wpAny_mono h4 (fun _ s5 ⟨y5, H5, I5, r5, yl, fi, pw⟩ => ?_) fun _ _ z => z.elim
   have pA := I5.pinned (kg H5 _ pw) (T.obj _ _ fi)
   refine wpAny_mono (hg C s2 H2 fp (X.pn ++ pins) _ s5 _ H5 y5 u _ pA r5 (step Hs Pj y5 H5 yl)) (fun _ s6 ⟨σ6, H6, I6, uh, Ht, e6, q6⟩ => ?_) fun _ _ z => z.elim
   subst e6
   have after : ∀ (s7 : Shared) (H7 : Hp), Inv (bu X (own ++ ys) scope cl C s2 H2 fp (X.pn ++ pins)) ([(D, { cls := .type "list", data := .seq ag.toArray nn })] ++ ly fp s5.heap) (uh ++ fr.map fun j => (σ[j]?).join) H7 s7 ->
    Inv (bu X (own ++ ys) scope cl C s2 H2 fp (X.pn ++ pins)) [] (uh ++ fr.map fun j => (σ[j]?).join) H7 s7 /\ tn (i + 1) s7.heap /\ (∀ b ∈ fp, H7 b = none) /\ H7 D = none /\ s7.heap.get? D = some { cls := .type "list", data := .seq ag.toArray nn } := fun s7 H7 I7 => by
    have pD := I7.pin (D, { cls := .type "list", data := .seq ag.toArray nn }) (List.mem_append_right _ (List.mem_append_left _ (List.mem_singleton.mpr rfl)))
    refine ⟨I7.jT fun p hp => absurd hp (by simp), T.keep _ _ _ fi fun b hb o e => (I7.pin (b, o) (List.mem_append_right _ (List.mem_append_right _ (lA hb e)))).1, fun b hb => ?_, pD.2.1, pD.1⟩
    obtain ⟨o, e, _⟩ := T.obj _ _ fi b hb
    exact (I7.pin (b, o) (List.mem_append_right _ (List.mem_append_right _ (lA hb e)))).2.1
   refine wpAny_mono ((hb C s2 H2 fp (X.pn ++ pins)).1 _ s6 _ H6 _ I6 q6) (fun ok s7 ⟨H7, I7, q7⟩ => ?_) fun _ _ z => z.elim
   dsimp only at q7
   by_cases ar : ok = true
   ·rw [if_pos ar] at q7 ⊢
    refine wpAny_mono ((hb C s2 H2 fp (X.pn ++ pins)).2 _ s7 _ H7 _ I7 q7) (fun yv s8 ⟨y8, H8, I8, r8, n8⟩ => ?_) fun _ _ z => z.elim
    obtain ⟨m', ki, w8⟩ := qA _ _ n8
    obtain ⟨J8, zq, zr, qB, kj⟩ := after s8 H8 I8
    have hl := r3.length
    refine call_meets F.slot_list_append ⟨_, kj, rfl⟩ F.entry_list_append (F.args_list_append_2 _ _) (PySem.list_append D ag.toArray nn yv (by rw [List.size_toArray]; walk_at "om")) ⟨kj, ?_⟩
    have qC := PySem.IsL.update kj (fun a => a.push yv)
    rw [List.push_toArray] at qC
    refine ⟨m', ki, i + 1, zs ++ [y8], H8, uh, ag ++ [yv], _, Ht, J8.turned (it := D) (fun b o br e => (Heap.get?_update_other _ _ (Ne.symm br)).trans e) qB eh (.inr qu) (fun y c e z => ?_) (fun p hp => ?_), T.keep _ _ _ zq fun b br o e => ?_, zr, qB, qC, r3.append (.cons r8 .nil), w8⟩
    ·obtain ⟨v, o, ho, _⟩ := I2.cell y c (S.cls.get y c e)
     have := Heap.lt_size ho
     walk_at "om"
    ·have cQ : p ∈ X.pn ++ pins := by
      have : p ∈ (X.pn ++ pins) ++ [] := hp
      simpa using this
     exact (qv p cQ).2.1
    ·have := dD b br
     exact (Heap.get?_update_other _ _ (by walk_at "om")).trans e
   ·rw [if_neg ar] at q7 ⊢
    obtain ⟨m', ki, w7⟩ := qA _ _ q7
    obtain ⟨J7, zt, zu, zv, zw⟩ := after s7 H7 I7
    exact ⟨m', ki, i + 1, zs, H7, uh, ag, nn, Ht, J7, zt, zu, zv, zw, r3, w7⟩
 exact codeAny_compStart_list (loop _ rfl) (T.self X.A 0 _ _ _ qy (loop _ rfl))
theorem Hu {wi : TI} (S : qF X own scope cl fr ys) (hc : X.calm = true) (hi : PI X tg iter wi) (hg : ∀ (C : Addr) (s : Shared) (H : Hp) (ex : List Addr) (pn : List (Addr × Obj)), PG (bu X (own ++ ys) scope cl C s H ex pn) tg g)
 (hb : ∀ (C : Addr) (s : Shared) (H : Hp) (ex : List Addr) (pn : List (Addr × Obj)), kc (bu X (own ++ ys) scope cl C s H ex pn) ifs tt /\ PE (bu X (own ++ ys) scope cl C s H ex pn) elt te)
 (hs : ∀ z, foldedSetIterable iter X.env z = pure z := by intro _; rfl) : PE X (.ListComp elt [⟨tg, iter, ifs, 0⟩] scope pos) (qG own.length wi g fr tt te) := by
 intro pins s σ H Q I h
 rw [eval_ListComp]
 refine wpAny_comprehension_free (use := none) rfl hs S.clos S.kind (fun y hy hl => ?_) (aB (hi pins s σ H _ I h) fun xv s1 h1 => aB h1 fun pj s2 h2 => ?_)
 ·have z := List.all_eq_true.mp S.names y hy
  rw [hl] at z
  simpa using z
 ·obtain ⟨it, fp, tn, J, H2, rfl, I2, T, dv, f2, hB⟩ := h2
  refine Ph (RR := fun acc C => compPost (model X.prog X.w) X.A X.xe none (EP X pins σ Q) acc C) S hc hg hb I2 T dv f2 hB fun D C s' H' J' hn fC q => ?_
  obtain ⟨m, hm⟩ := hn
  obtain ⟨c0, c1, c2, c3, c4, c5⟩ := fC
  exact ⟨m, hm, fun h' sb => ⟨.ref D, H', J'.turned (it := C) (fun b o hb e => sb.extBut b o hb e) c0 c1 c3 c4 c5, rfl, q⟩⟩
end
end Gz
namespace Gz
open PySem PySem.Spec PyProof.Rows L2
section
variable {X : Cx} {K : PySem.W.Frag}
variable {ρ : L2.St} {tt : TT} {te : TE} {H : Hp} {Q : VK} {a b : Addr} {xs ys : List V}
end
end Gz
namespace Gz
open PySem PySem.Spec PyProof.Rows L2
theorem Pk (xs : List V) (b : Nat) : eO xs none (some (b : Int)) = xs.take b := by
 unfold eO
 rw [HT.Gk, HT.Gj, List.drop_zero, Nat.sub_zero]
 by_cases h : b <= xs.length
 ·rw [Nat.min_eq_left h]
 ·rw [Nat.min_eq_right (by omega), List.take_length, List.take_of_length_le (by omega)]
theorem Hv (xs : List V) (a : Nat) : eO xs (some (a : Int)) none = xs.drop a := by
 unfold eO
 rw [HT.Gk, HT.Gj]
 by_cases h : a <= xs.length
 ·rw [Nat.min_eq_left h, List.take_of_length_le (by rw [List.length_drop]; omega)]
 ·rw [Nat.min_eq_right (by omega), List.drop_eq_nil_of_le (Nat.le_refl _), List.drop_eq_nil_of_le (by omega)]; simp
mutual
noncomputable def el : Nat -> PyData -> Bool
 | _, .none => true
 | _, .bool _ => true
 | _, .int _ => true
 | n + 1, .tuple ds => lV n ds
 | n + 1, .list ds => lV n ds
 | _, _ => false
noncomputable def lV : Nat -> List PyData -> Bool
 | _, [] => true
 | n, d :: ds => el n d && lV n ds
end
mutual
theorem zH : ∀ (d : PyData) {n : Nat}, el n d = true -> PyData.eqv d d = true /\ d.canLay0 = true /\ d.depth <= n
 | .none, n, _ => ⟨rfl, rfl, Nat.zero_le _⟩
 | .bool b, n, _ => ⟨by simp [PyData.eqv], rfl, Nat.zero_le _⟩
 | .int i, n, _ => ⟨by simp [PyData.eqv], rfl, Nat.zero_le _⟩
 | .str x, 0, h => by simp [el] at h
 | .str x, n + 1, h => by simp [el] at h
 | .dict x, 0, h => by simp [el] at h
 | .dict x, n + 1, h => by simp [el] at h
 | .tuple ds, 0, h => by simp [el] at h
 | .list ds, 0, h => by simp [el] at h
 | .tuple ds, n + 1, h => by
  obtain ⟨a, b, c⟩ := zI ds (n := n) (by simpa [el] using h)
  exact ⟨by simpa only [PyData.eqv] using a, by simpa only [PyData.canLay0] using b, by simp only [PyData.depth]; omega⟩
 | .list ds, n + 1, h => by
  obtain ⟨a, b, c⟩ := zI ds (n := n) (by simpa [el] using h)
  exact ⟨by simpa only [PyData.eqv] using a, by simpa only [PyData.canLay0] using b, by simp only [PyData.depth]; omega⟩
theorem zI : ∀ (ds : List PyData) {n : Nat}, lV n ds = true -> PyData.eqvAll ds ds = true /\ PyData.canLayAll0 ds = true /\ PyData.depthAll ds <= n
 | [], n, _ => ⟨rfl, rfl, Nat.zero_le _⟩
 | d :: ds, n, h => by
  have h' : el n d = true /\ lV n ds = true := by simpa [lV] using h
  obtain ⟨a, b, c⟩ := zH d h'.1
  obtain ⟨a', b', c'⟩ := zI ds h'.2
  exact ⟨by simp only [PyData.eqvAll, a, a', Bool.and_self], by simp only [PyData.canLayAll0, b, b', Bool.and_self], by simp only [PyData.depthAll]; omega⟩
end
theorem Pl {K : PySem.W.Frag} {H : Hp} {x y : V} {d : PyData} {n : Nat} {neg : Bool} {Q : VK} (hx : Dat K H x d) (hy : Dat K H y d) (hp : el n d = true) (hn : n <= 60) (q : Q (.bl (!neg)) H) : tV K neg x y H Q := by
 obtain ⟨a, b, c⟩ := zH d hp
 refine ⟨d, d, hx, hy, b, b, Nat.le_trans c hn, ?_⟩
 rw [a]
 cases neg <;> exact q
end Gz
namespace Gz
open PySem PySem.Spec PyProof.Rows L2
end Gz
namespace Gz
open PySem PySem.Spec PyProof.Rows L2
noncomputable def ay {α : Type} (R : V -> α -> Prop) : List V -> List α -> Prop
 | [], [] => True
 | x :: xs, a :: as => R x a /\ ay R xs as
 | _, _ => False
section
variable {α : Type} {R R' : V -> α -> Prop}
theorem ay.len : ∀ {xs : List V} {as : List α}, ay R xs as -> xs.length = as.length
 | [], [], _ => rfl
 | _ :: _, _ :: _, h => by simp [ay.len h.2]
 | [], _ :: _, h => h.elim
 | _ :: _, [], h => h.elim
theorem ay.imp (f : ∀ x a, R x a -> R' x a) : ∀ {xs : List V} {as : List α}, ay R xs as -> ay R' xs as
 | [], [], _ => trivial
 | _ :: _, _ :: _, h => ⟨f _ _ h.1, ay.imp f h.2⟩
 | [], _ :: _, h => h.elim
 | _ :: _, [], h => h.elim
theorem ay.get : ∀ {xs : List V} {as : List α}, ay R xs as -> ∀ {i : Nat} {x : V}, xs[i]? = some x -> ∃ a, as[i]? = some a /\ R x a
 | [], [], _, i, x, e => by simp at e
 | _ :: _, a :: _, h, 0, x, e => by simp at e; subst e; exact ⟨a, by simp, h.1⟩
 | _ :: _, _ :: _, h, i + 1, x, e => by
  simp only [List.getElem?_cons_succ] at e ⊢
  exact ay.get h.2 e
 | [], _ :: _, h, _, _, _ => h.elim
 | _ :: _, [], h, _, _, _ => h.elim
theorem ay.at : ∀ {xs : List V} {as : List α}, ay R xs as -> ∀ {i : Nat} {a : α}, as[i]? = some a -> ∃ x, xs[i]? = some x /\ R x a
 | [], [], _, i, x, e => by simp at e
 | x :: _, _ :: _, h, 0, a, e => by simp at e; subst e; exact ⟨x, by simp, h.1⟩
 | _ :: _, _ :: _, h, i + 1, a, e => by
  simp only [List.getElem?_cons_succ] at e ⊢
  exact ay.at h.2 e
 | [], _ :: _, h, _, _, _ => h.elim
 | _ :: _, [], h, _, _, _ => h.elim
theorem ay.app : ∀ {xs ys : List V} {as bs : List α}, ay R xs as -> ay R ys bs -> ay R (xs ++ ys) (as ++ bs)
 | [], _, [], _, _, h => h
 | _ :: _, _, _ :: _, _, h, h' => ⟨h.1, ay.app h.2 h'⟩
 | [], _, _ :: _, _, h, _ => h.elim
 | _ :: _, _, [], _, h, _ => h.elim
theorem ay.snoc {xs : List V} {as : List α} {x : V} {a : α} (h : ay R xs as) (h' : R x a) : ay R (xs ++ [x]) (as ++ [a]) := h.app ⟨h', trivial⟩
theorem ay.take : ∀ {xs : List V} {as : List α} (n : Nat), ay R xs as -> ay R (xs.take n) (as.take n)
 | [], [], n, _ => by simp [ay]
 | _ :: _, _ :: _, 0, _ => by simp [ay]
 | _ :: _, _ :: _, n + 1, h => by simpa [ay] using ⟨h.1, ay.take n h.2⟩
 | [], _ :: _, _, h => h.elim
 | _ :: _, [], _, h => h.elim
theorem ay.drop : ∀ {xs : List V} {as : List α} (n : Nat), ay R xs as -> ay R (xs.drop n) (as.drop n)
 | [], [], n, _ => by simp [ay]
 | _ :: _, _ :: _, 0, h => by simpa using h
 | _ :: _, _ :: _, n + 1, h => by simpa using ay.drop n h.2
 | [], _ :: _, _, h => h.elim
 | _ :: _, [], _, h => h.elim
theorem ay.eG {lo : Int} (n : Nat) : ay (fun x (k : Nat) => x = V.int (lo + k)) ((List.range n).map fun k => V.int (lo + (k : Nat))) (List.range n) := by
 suffices ∀ l : List Nat, ay (fun x (k : Nat) => x = V.int (lo + k)) (l.map fun k => V.int (lo + (k : Nat))) l from this _
 intro l
 induction l with
 | nil => trivial
 | cons a l ih => exact ⟨rfl, ih⟩
end
theorem filter_tt {α : Type} (l : List α) : l.filter (fun _ => true) = l := List.filter_eq_self.mpr fun _ _ => rfl
noncomputable abbrev P2 := Int × Int
noncomputable def dh (H : Hp) (v : V) (p : P2) : Prop := ∃ a, v = .ref a /\ H a = some (.tup [.int p.1, .int p.2])
theorem dh.same {H H' : Hp} {v : V} {p : P2} (h : dh H v p) (s : aw H H') : dh H' v p := let ⟨a, e, q⟩ := h; ⟨a, e, s _ _ q⟩
theorem dh.put {H : Hp} {v : V} {p : P2} {r : Addr} {ys zs : List V} (h : dh H v p) (hr : H r = some (.lst ys)) : dh (upd H r (.lst zs)) v p := by
 obtain ⟨a, e, q⟩ := h
 refine ⟨a, e, ?_⟩
 rw [aH (yt q hr (fun z => nomatch z))]; exact q
noncomputable abbrev dO (H : Hp) : List V -> List P2 -> Prop := ay (dh H)
theorem dO.same {H H' : Hp} {xs : List V} {ps : List P2} (h : dO H xs ps) (s : aw H H') : dO H' xs ps := ay.imp (fun _ _ r => r.same s) h
noncomputable def ui (ns : List Int) : Bool := (ns.zip (ns.drop 1)).all fun r => decide (r.1 < r.2)
theorem Pm {ns : List Int} : ui ns = true ↔ ∀ i, i + 1 < ns.length -> ns.getD i 0 < ns.getD (i + 1) 0 := by
 unfold ui
 rw [List.all_eq_true]
 constructor
 ·intro h i hi
  have e : (ns.zip (ns.drop 1))[i]? = some (ns.getD i 0, ns.getD (i + 1) 0) := by
   rw [List.getElem?_zip_eq_some, List.getElem?_drop, List.getD_eq_getElem?_getD, List.getD_eq_getElem?_getD, List.getElem?_eq_getElem (show i < ns.length by omega), show 1 + i = i + 1 by omega, List.getElem?_eq_getElem hi]
   exact ⟨rfl, rfl⟩
  simpa using h _ (List.mem_of_getElem? e)
 ·intro h r hr
  obtain ⟨i, hi⟩ := List.mem_iff_getElem?.mp hr
  rw [List.getElem?_zip_eq_some, List.getElem?_drop] at hi
  have h1 := (List.getElem?_eq_some_iff.mp hi.2).1
  have := h i (by omega)
  rw [List.getD_eq_getElem?_getD, List.getD_eq_getElem?_getD, hi.1, show i + 1 = 1 + i by omega, hi.2] at this
  simpa using this
noncomputable def aside (s e p : P2) : Int := (p.2 - s.2) * (e.1 - s.1) - (p.1 - s.1) * (e.2 - s.2)
noncomputable def aD (ps : List P2) (i : Nat) : P2 := ps.getD i (0, 0)
theorem Pn {H : Hp} {xs : List V} {ps : List P2} (h : dO H xs ps) {i : Nat} (hi : i < ps.length) : ∃ v, b8 xs (i : Int) = some v /\ dh H v (aD ps i) := by
 have e : ps[i]? = some (aD ps i) := by unfold aD; rw [List.getD_eq_getElem?_getD, List.getElem?_eq_getElem hi]; rfl
 obtain ⟨x, ex, r⟩ := h.at e
 exact ⟨x, df ex, r⟩
end Gz
namespace Gz
open PySem PySem.Spec PyProof.Rows L2
end Gz
namespace Gz
open PySem PySem.Spec PyProof.Rows L2
end Gz
namespace Gz
open PySem PySem.Spec PyProof.Rows L2
noncomputable def qH (s e : P2) (p q t b : Int) : Prop := (t - s.2 * b) * (e.1 - s.1) * q = (p - s.1 * q) * (e.2 - s.2) * b
noncomputable def uj (ks : List P2) (p q : Int) (i : Nat) : Prop := i + 1 < ks.length /\ (aD ks i).1 * q <= p /\ p <= (aD ks (i + 1)).1 * q
noncomputable def hit (ks : List P2) (p q : Int) : Prop := ∃ i, uj ks p q i
structure Led (ks : List P2) (p q t b : Int) : Prop where
 pos : 1 <= b
 low : tQ t b = 1
 on : ∀ i, uj ks p q i -> qH (aD ks i) (aD ks (i + 1)) p q t b
theorem Hw {ks : List P2} {i : Nat} (h : i < ks.length) : (ks.map (·.1)).getD i 0 = (aD ks i).1 := by
 unfold aD
 rw [List.getD_eq_getElem?_getD, List.getElem?_map, List.getD_eq_getElem?_getD, List.getElem?_eq_getElem h]; rfl
theorem Hy {ks : List P2} (h : ui (ks.map (·.1)) = true) : ∀ {i j : Nat}, i < j -> j < ks.length -> (aD ks i).1 < (aD ks j).1 := by
 rw [Pm] at h
 have st : ∀ i, i + 1 < ks.length -> (aD ks i).1 < (aD ks (i + 1)).1 := fun i hi => by
  have := h i (by rw [List.length_map]; exact hi)
  rwa [Hw (by omega), Hw hi] at this
 intro i j qm hj
 induction j with
 | zero => omega
 | succ j ih =>
  by_cases e : i = j
  ·subst e; exact st i hj
  ·exact Int.lt_trans (ih (by omega) (by omega)) (st j hj)
theorem Po {a b c : P2} {p q t w : Int} (hq : 0 < q) (hV : a.1 < b.1) (h1 : p = b.1 * q) (h : qH a b p q t w) : qH b c p q t w := by
 unfold qH at *
 subst h1
 have e : (t - b.2 * w) * ((b.1 - a.1) * q) = 0 := by grind
 have n : (b.1 - a.1) * q ≠ 0 := Int.mul_ne_zero (by omega) (by omega)
 have := (Int.mul_eq_zero.mp e).resolve_right n
 have e2 : t - b.2 * w = 0 := this
 rw [e2]; grind
theorem Led.of {ks : List P2} {p q t b : Int} {i : Nat} (hr : ui (ks.map (·.1)) = true) (hq : 0 < q) (h1 : 1 <= b) (h2 : tQ t b = 1) (hi : uj ks p q i) (first : ∀ j, j < i -> ¬ uj ks p q j) (h : qH (aD ks i) (aD ks (i + 1)) p q t b) : Led ks p q t b := by
 refine ⟨h1, h2, fun j hj => ?_⟩
 by_cases e : j = i
 ·rw [e]; exact h
 by_cases lt : j < i
 ·exact absurd hj (first j lt)
 by_cases e1 : j = i + 1
 ·subst e1
  have l1 := Hy hr (i := i) (j := i + 1) (by omega) (by have := hj.1; omega)
  exact Po hq l1 (by have := hi.2.2; have := hj.2.1; omega) h
 ·have l1 := Hy hr (i := i + 1) (j := j) (by omega) (by have := hj.1; omega)
  have : (aD ks (i + 1)).1 * q < (aD ks j).1 * q := Int.mul_lt_mul_of_pos_right l1 hq
  have a1 := hi.2.2
  have a2 := hj.2.1
  omega
noncomputable def Hz (H : Hp) (v : V) (t b : Int) : Prop := ∃ a, v = .ref a /\ H a = some (.tup [.int t, .int b])
theorem Hz.p {K : PySem.W.Frag} {H : Hp} {v : V} {t b : Int} (h : Hz H v t b) : NU K H v t b := let ⟨a, e, q⟩ := h; ⟨a, e, ai.of q⟩
noncomputable def SameBut (x : Addr) (H H' : Hp) : Prop := ∀ b o, b ≠ x -> H b = some o -> H' b = some o
end Gz
namespace Gz
open PySem PySem.Spec PyProof.Rows L2
theorem uk {ps : List P2} {i : Nat} (hi : i < ps.length) : aD ps i ∈ ps := by
 unfold aD; rw [List.getD_eq_getElem?_getD, List.getElem?_eq_getElem hi]; exact List.getElem_mem hi
end Gz
namespace Gz
open PySem PySem.Spec PyProof.Rows L2
theorem il {α β : Type} {R : Hp -> V -> α -> Prop} {R' : Hp -> V -> β -> Prop} {Ok : Hp -> Prop} {ρ : L2.St} {tt : TT} {te : TE} {f : α -> β} {Q' : List V -> Hp -> Prop} (mono : ∀ H H' x a, aw H H' -> R H x a -> R H' x a) (HA : ∀ H H' x a, aw H H' -> R' H x a -> R' H' x a) :
 ∀ {xs : List V} {as : List α} {ys : List V} {bs : List β} {H : Hp}, ay (R H) xs as -> ay (R' H) ys bs -> (∀ H', aw H H' -> Ok H') -> (∀ x a, a ∈ as -> ∀ H', aw H H' -> R H' x a -> ∀ Q, Q true H' -> tt (some x :: ρ) H' Q) ->
 (∀ x a, a ∈ as -> ∀ H', aw H H' -> R H' x a -> ∀ Q : VK, (∀ qE y, aw H' qE -> R' qE y (f a) -> Q y qE) -> te (some x :: ρ) H' Q) ->
 (∀ H' zs, aw H H' -> ay (R' H') zs (bs ++ as.map f) -> Q' zs H') -> dF Ok ρ tt te xs ys H Q'
 | [], [], ys, bs, H, _, hy, dN, _, _, q => ⟨dN H (aw.refl H), q H ys (aw.refl H) (by simpa using hy)⟩
 | x :: xs, a :: as, ys, bs, H, h, hy, dN, ht, he, q => by
  refine ⟨dN H (aw.refl H), ht x a (.head _) H (aw.refl H) h.1 _ ?_⟩
  rw [if_pos rfl]
  refine he x a (.head _) H (aw.refl H) h.1 _ fun H2 y s2 r2 => ?_
  refine il mono HA (bs := bs ++ [f a]) (h.2.imp fun x a r => mono _ _ _ _ s2 r) ((hy.imp fun x a r => HA _ _ _ _ s2 r).snoc r2) (fun H' s' => dN H' (s2.trans s')) (fun x a ha H' s' => ht x a (.tail _ ha) H' (s2.trans s')) (fun x a ha H' s' => he x a (.tail _ ha) H' (s2.trans s')) fun H' zs s' hz => ?_
  refine q H' zs (s2.trans s') ?_
  rw [List.map_cons]
  rwa [List.append_assoc] at hz
 | [], _ :: _, _, _, _, h, _, _, _, _, _ => h.elim
 | _ :: _, [], _, _, _, h, _, _, _, _, _ => h.elim
noncomputable def sw (ks : List P2) : List P2 := ks.map fun p => (p.2, p.1)
end Gz
namespace Gz
open PySem PySem.Spec PyProof.Rows L2
end Gz
namespace Gz
open PySem PySem.Spec PyProof.Rows L2
theorem y3 {us : List Value} {ns : List Int} (h : IntsAre us ns) : Vals (ns.map V.int) us := by
 induction h with
 | nil => exact .nil
 | cons n t r ih => exact .cons ⟨t, rfl⟩ ih
noncomputable abbrev lW (H : Hp) (v : V) (s : S2) : Prop := bb H v s.1 s.2
theorem fw.all : ∀ {H : Hp} {xs : List V} {ss : List S2}, fw H xs ss -> ay (lW H) xs ss
 | _, [], [], _ => trivial
 | _, _ :: _, _ :: _, h => ⟨h.1, fw.all h.2⟩
 | _, [], _ :: _, h => h.elim
 | _, _ :: _, [], h => h.elim
noncomputable def cellsFrom : En -> List Int -> List S2
 | lo, [] => [(lo, none)]
 | lo, z :: zs => (lo, some (z - 1)) :: cellsFrom (some z) zs
noncomputable def gF (c : S2) : Int := match c.1, c.2 with
 | some x, _ => x
 | none, some y => y
 | none, none => 0
theorem Pp {c : S2} (h : Hi c) : hs c (gF c) = true := by
 rw [OU]
 unfold Hi at h
 rcases c with ⟨_ | x, _ | y⟩
 ·exact ⟨fun _ e => (nomatch e), fun _ e => (nomatch e)⟩
 ·exact ⟨fun _ e => (nomatch e), fun _ e => by cases e; exact Int.le_refl _⟩
 ·exact ⟨fun _ e => by cases e; exact Int.le_refl _, fun _ e => (nomatch e)⟩
 ·refine ⟨fun _ e => by cases e; exact Int.le_refl _, fun _ e => ?_⟩
  cases e
  show x <= y
  simp [ba] at h; omega
end Gz
namespace Gz
open PySem PySem.Spec PyProof.Rows L2
end Gz
namespace Gz
open PySem PySem.Spec PyProof.Rows L2
end Gz
namespace Gz
open PySem PySem.Spec PyProof.Rows L2
section
variable {X : Cx} {CX : cV} {k : Nat} {f C : Addr} {fd : FuncData} {ps : List Str} {ds : List Value} {bU : List V} {sp : Sp} {E : XK} {x m : Str} {p pos apos : Pos} {e : Expr} {es : List Expr} {t : TA}
end
section
variable {X : Cx}
noncomputable def um (ta : TA) : TE := fun σ H Q => ta σ H fun vs H1 => ∃ j : Int, vs = [.int j] /\ 0 <= j /\ j <= 1000 /\ ∀ r, H1 r = none -> Q (.ref r) (upd H1 r (.eG 0 j))
end
section
variable {X : Cx} {CX : cV} {k : Nat} {f : Addr} {fd : FuncData} {ps : List Str} {ds : List Value} {bU : List V} {sp : Sp} {E : XK} {m : Str} {pos apos : Pos} {o e : Expr} {es : List Expr} {ta : TE} {t : TA}
noncomputable def uo (K : PySem.W.Frag) (m : Str) (f : Addr) (sp : Sp) (bU : List V) (E : XK) (ta : TE) (t : TA) : TE := fun σ H Q => ta σ H fun x H1 => ∃ a C dx fs, x = .ref a /\ H1 a = some (.ins C dx fs) /\ eK K C /\ Meth K C m f /\ fs.lookup m = none /\
 t σ H1 fun vs H2 => sp (.ref a :: (vs ++ bU)) H2 Q E
end
noncomputable abbrev W2 := Option S2
noncomputable def bN (H : Hp) (v : V) : W2 -> Prop
 | none => v = .non
 | some s => bb H v s.1 s.2
theorem bN.same {H H' : Hp} {v : V} {w : W2} (h : bN H v w) (s : aw H H') : bN H' v w := by
 cases w with
 | none => exact h
 | some a => exact bb.same h s
end Gz
namespace Gz
open PySem L2 PySem.W PySem.Spec PyProof.Rows
noncomputable def Bt (n : Nat) (x : Int) : Prop := Builtin.Int.intBits x <= n
theorem Bt.add {n : Nat} {x y : Int} (h : Bt n x) (h' : Bt n y) : Bt (n + 1) (x + y) := by
 have := PyProof.Rows.bits_add h h'
 rwa [Nat.max_self] at this
theorem Bt.mul {n m : Nat} {x y : Int} (h : Bt n x) (h' : Bt m y) : Bt (n + m) (x * y) := PyProof.Rows.bits_mul h h'
theorem Bt.up {n m : Nat} {x : Int} (h : Bt n x) (hm : n <= m) : Bt m x := Nat.le_trans h hm
theorem Bt.small {x : Int} (h1 : -(2 ^ 64) < x) (h2 : x < 2 ^ 64) : Bt 64 x := PySem.intBits_le_64 h1 h2
noncomputable def ip (i j : Int) : Prop := Bt 40000000 i /\ Bt 40000000 j
theorem ip.ok {i j : Int} (h : ip i j) : IntMulOk i j := PyProof.Rows.mulOk_of_bits h.1 h.2 (by decide)
theorem qI {X : Cx} : bI X (binaryOp .Mult) (rI ip fun i j => .int (i * j)) := su fun _ _ _ _ _ _ _ hc q => mul_int q hc.ok
noncomputable def eW (ns : List Int) : Prop := ns.length <= 63 /\ ∀ x ∈ ns, Bt 1048576 x
theorem weigh : ∀ (ns : List Int) (x : Int), x ∈ ns -> Builtin.Int.intBits x <= PySem.W.WData.weightAll (ns.map PySem.W.WData.int)
 | [], x, h => by simp at h
 | y :: ns, x, h => by
  have e : PySem.W.WData.weightAll ((y :: ns).map PySem.W.WData.int) = (if y == 0 then 0 else y.natAbs.log2 + 1) + 1 + PySem.W.WData.weightAll (ns.map PySem.W.WData.int) := by
   rw [List.map_cons]
   simp only [PySem.W.WData.weightAll, PySem.W.WData.weight]
  rw [e]
  rcases List.mem_cons.mp h with rfl | h
  ·unfold Builtin.Int.intBits
   omega
  ·have := weigh ns x h
   omega
theorem Pq {ns : List Int} (h : PySem.W.WData.layableAll [PySem.W.WData.list (ns.map PySem.W.WData.int)] = true) : ∀ x ∈ ns, Bt 1048576 x := by
 intro x hx
 have h1 : PySem.W.WData.layable (PySem.W.WData.list (ns.map PySem.W.WData.int)) = true := by
  have : (PySem.W.WData.layable (PySem.W.WData.list (ns.map PySem.W.WData.int)) && true) = true := h
  rwa [Bool.and_true] at this
 unfold PySem.W.WData.layable at h1
 rw [Bool.and_eq_true] at h1
 have h2 := of_decide_eq_true h1.2
 have h3 := weigh ns x hx
 simp only [PySem.W.WData.weight] at h2
 unfold Bt
 omega
theorem Pr {l : PySem.W.OpenLaw} {k : Nat} {q : Program} {loose : List Str} {XP : (Str -> Option Value) -> Heap -> Prop} {YP : World -> Heap -> Prop} {d : DefRec} {K : Params -> PySem.W.Frag} {CX : World -> cV} {sp : World -> Sp} {x : Str}
 (most : l.most = some 63) (plain : d.params.defaults = []) (room : bQ k callerA)
 (Pt : ∀ (w : World) (h : Heap), YP w h -> (K w.params).In h)
 (F : ∀ (w : World) (mg : Str -> Option Value) (fa : Addr) (h : Heap), (K w.params).In h -> h.Ns mainGlobals mg -> mg d.name = some (.ref fa) ->
   ∃ fd : FuncData, (∀ (s : Shared) (u : Value), BindsTo s fd ⟨[u], []⟩ [(x, u)]) /\
    ∀ base : Heap, (K w.params).In base -> base.Ns mainGlobals mg -> aJ l.prog w (K w.params) mg base (CX w) k fa fd [x] (sp w))
 (law : ∀ (w : World) (H : Hp) (a : Addr) (ns : List Int), eW ns -> ah (K w.params) H a (ns.map V.int) -> sp w [.ref a] H (fun v _ => v = .bl true) fun _ _ _ => False)
 (calm : ∀ (w : World) (H : Hp) (s : Shared) (e : Value) (s' : Shared), CX w [] H s (fun _ _ _ => False) e s' -> False) :
 PySem.W.WalkO q loose XP YP l.row.toRowW d [] (fun f vs => PySem.call f vs) := by
 intro w t₀ t mg mb G Y f ob pm cd doc dV kV look data code defs at_ gens args vals as pre lay _ well _
 have e1 : dV = .none := Dflts.none defs plain
 have e2 : kV = .none := Dflts.noKw defs
 cases e1
 cases e2
 obtain ⟨a, vs, ns, e3, e4, obj, are, len⟩ := yZ.Nv most pre well
 cases e3
 cases e4
 have KX := Pt w _ Y
 obtain ⟨fd, bind, ok⟩ := F w mg f _ KX G.T.g at_
 have run := Nz KX G.T.g G.T.b G.T.builtins G.T.nolimit gens obj are (Nat.le_trans len (by decide)) room ok bind
  (fun H _ S => law w H a ns ⟨len, Pq lay⟩ S) fun H e s' => calm w H t e s'
 refine enter_call (codeAny_mono run ?_)
 rintro r s' ⟨rfl, old, os, bare⟩
 exact ⟨.inl ⟨.bool true, .bool true, [], rfl, fun _ => rfl, .bool true, yZ.Ny l _, fun _ => ⟨List.Pairwise.nil, fun _ z => (nomatch z)⟩⟩, old, os, bare⟩
noncomputable def dP (ns : List Int) (k : Int) : Int := if 0 < (ns.length : Int) then ns.getD (k % (ns.length : Int)).toNat 0 else 0
theorem HB {ns : List Int} (h : eW ns) (k : Int) : Bt 1048576 (dP ns k) := by
 unfold dP
 split
 ·rw [List.getD_eq_getElem?_getD]
  cases e : ns[(k % (ns.length : Int)).toNat]? with
  | none => exact (Bt.small (by decide) (by decide)).up (by decide)
  | some n => exact h.2 _ (List.mem_of_getElem? e)
 ·exact (Bt.small (by decide) (by decide)).up (by decide)
theorem HC {ns : List Int} {k : Int} (h : 0 < (ns.length : Int)) : b8 (ns.map V.int) (k % (ns.length : Int)) = some (.int (dP ns k)) := by
 have h1 := Int.emod_nonneg k (show (ns.length : Int) ≠ 0 by omega)
 have h2 := Int.emod_lt_of_pos k h
 unfold dP
 rw [if_pos h]
 have ek : k % (ns.length : Int) = (((k % (ns.length : Int)).toNat : Nat) : Int) := by omega
 refine (congrArg (b8 _) ek).trans (df ?_)
 rw [List.getElem?_map, List.getD_eq_getElem?_getD, List.getElem?_eq_getElem (by omega)]
 rfl
theorem Pu {ns : List Int} (h : eW ns) {k : Int} (hk : -1000000 <= k /\ k <= 1000000) : ip k k /\ ip (dP ns k + 1009) (dP ns k + 48271 + k * k) := by
 have c := HB h k
 have k1 : Bt 64 k := Bt.small (by omega) (by omega)
 have k2 : Bt 128 (k * k) := k1.mul k1
 have n1 : Bt 1048576 1009 := (Bt.small (by decide) (by decide)).up (by decide)
 have n2 : Bt 1048576 48271 := (Bt.small (by decide) (by decide)).up (by decide)
 exact ⟨⟨k1.up (by decide), k1.up (by decide)⟩, (c.add n1).up (by decide), ((c.add n2).add (k2.up (by decide))).up (by decide)⟩
theorem Pw {ns : List Int} (h : eW ns) (k : Int) : ip 2147483629 (dP ns k) /\ ip (2147483629 * dP ns k) (dP ns k) /\ ip (2147483629 * dP ns k * dP ns k) (dP ns k) := by
 have c := HB h k
 have n1 : Bt 64 2147483629 := Bt.small (by decide) (by decide)
 have c1 := n1.mul c
 have c2 := c1.mul c
 exact ⟨⟨n1.up (by decide), c.up (by decide)⟩, ⟨c1.up (by decide), c.up (by decide)⟩, c2.up (by decide), c.up (by decide)⟩
end Gz
namespace Gz
open PySem PySem.Spec PyProof.Rows L2
end Gz
namespace Gz
open PySem PySem.Spec PyProof.Rows L2
theorem zJ {vs : List Int} {p : Int} (h0 : 0 <= p) (h1 : p < (vs.length : Int)) : ∃ v, v ∈ vs /\ b8 (vs.map V.int) p = some (.int v) := by
 have e : p = ((p.toNat : Nat) : Int) := by omega
 refine ⟨vs[p.toNat]'(by omega), List.getElem_mem _, ?_⟩
 refine (congrArg (b8 _) e).trans (df ?_)
 rw [List.getElem?_map, List.getElem?_eq_getElem (by omega)]
 rfl
theorem HD {x : Int} (h : x.natAbs < 2 ^ 600) : Bd 4000 x := Bd.up (n := 600) h (by decide)
theorem ko {x y : Int} (h : x.natAbs < 2 ^ 600) (h' : y.natAbs < 2 ^ 600) : qg x y := ⟨HD h, HD h'⟩
end Gz
namespace Gz
theorem Px (i j : Nat) : (if (j : Int) < (i : Int) then (j : Int) else (i : Int)) = ((min i j : Nat) : Int) := by split <;> omega
theorem Py (i j : Nat) : (if (j : Int) > (i : Int) then (j : Int) else (i : Int)) = ((max i j : Nat) : Int) := by split <;> omega
end Gz
namespace Gz
open PySem L2
theorem a7 {a b : TS} {D : Ends} {σ : L2.St} {H : Hp} (I : L2.St -> Hp -> Prop) (h1 : ∀ N : L2.St -> Hp -> Prop, (∀ σ H, I σ H -> N σ H) -> a { D with nx := N } σ H) (h2 : ∀ σ H, I σ H -> b D σ H) : lb a b D σ H := h1 _ h2
end Gz
namespace Gz
open PySem L2 PySem.W PySem.Spec PyProof.Rows
noncomputable def pre (f : P2 -> Int) (ps : List P2) (i : Nat) : Int := ((ps.take i).map f).sum
theorem kq (f : P2 -> Int) (ps : List P2) {i : Nat} (h : i < ps.length) : pre f ps (i + 1) = pre f ps i + f (aD ps i) := by
 unfold pre aD
 rw [List.take_succ, List.map_append, List.sum_append, List.getD_eq_getElem?_getD, List.getElem?_eq_getElem h]
 simp only [Option.toList_some, List.map_cons, List.map_nil, List.sum_cons, List.sum_nil, Int.add_zero, Option.getD_some]
noncomputable def cK (ps : List P2) (i j : Nat) : Int := if i <= j then pre (·.2) ps j - pre (·.2) ps i else pre (·.1) ps j - pre (·.1) ps i
noncomputable def eo (ps : List P2) : Prop := ∀ p ∈ ps, p.1 <= p.2
theorem HE {ps : List P2} (h : eo ps) (i : Nat) : ∀ n, i + n <= ps.length -> pre (·.1) ps (i + n) - pre (·.1) ps i <= pre (·.2) ps (i + n) - pre (·.2) ps i
 | 0, _ => by simp
 | n + 1, hn => by
  have ih := HE h i n (by omega)
  rw [show i + (n + 1) = (i + n) + 1 by omega, kq _ ps (by omega), kq _ ps (by omega)]
  have := h _ (uk (ps := ps) (i := i + n) (by omega))
  omega
theorem lX {ps : List P2} (h : eo ps) {i j : Nat} (qm : i <= j) (hj : j <= ps.length) : pre (·.1) ps j - pre (·.1) ps i <= pre (·.2) ps j - pre (·.2) ps i := by
 have := HE h i (j - i) (by omega)
 rwa [show i + (j - i) = j by omega] at this
theorem Pz {ps : List P2} (h : eo ps) {i j k : Nat} (hi : i <= ps.length) (hj : j <= ps.length) (hk : k <= ps.length) : cK ps i j <= cK ps i k + cK ps k j := by
 have a := fun h' => lX h (i := i) (j := j) h' hj
 have b := fun h' => lX h (i := j) (j := i) h' hi
 have c := fun h' => lX h (i := i) (j := k) h' hk
 have d := fun h' => lX h (i := k) (j := i) h' hi
 have e := fun h' => lX h (i := j) (j := k) h' hk
 have f := fun h' => lX h (i := k) (j := j) h' hj
 unfold cK
 split <;> split <;> split <;> omega
noncomputable def part (ps : List P2) (i j k : Nat) : Int := if i < j then pre (·.2) ps (min i j + k) - pre (·.2) ps i else pre (·.1) ps j - pre (·.1) ps (min i j + k)
theorem HF {ps : List P2} {i j : Nat} : part ps i j 0 = 0 /\ part ps i j (max i j - min i j) = cK ps i j := by
 unfold part cK
 by_cases h : i < j
 ·rw [if_pos h, if_pos h, if_pos (by omega), show min i j + 0 = i by omega, show min i j + (max i j - min i j) = j by omega]
  omega
 ·rw [if_neg h, if_neg h, show min i j + 0 = j by omega, show min i j + (max i j - min i j) = i by omega]
  by_cases e : i = j
  ·subst e
   rw [if_pos (by omega)]
   omega
  ·rw [if_neg (by omega)]
   omega
end Gz
namespace Gz
open PySem PySem.Spec PyProof.Rows L2
noncomputable def bits (bs : List Int) : Prop := ∀ x ∈ bs, x = 0 ∨ x = 1
noncomputable abbrev Lk := Option (List Int)
noncomputable def zK (xs : List Addr) (H : Hp) (v : V) : Lk -> Prop
 | none => v = .non
 | some bs => ∃ l, v = .ref l /\ l ∉ xs /\ H l = some (.lst (bs.map V.int))
noncomputable abbrev IsL := zK []
theorem zK.l {xs : List Addr} {H : Hp} {v : V} {k : Lk} (h : zK xs H v k) : IsL H v k := by
 cases k with
 | none => exact h
 | some bs => obtain ⟨l, a, b, c⟩ := h; exact ⟨l, a, (fun z => nomatch z), c⟩
end Gz
namespace Gz
open PySem PySem.Spec PyProof.Rows L2
local macro_rules | `(tactic| walk_at "om") => `(tactic| ((try simp only [PySem.Addr] at *); omega))
section
variable {κ : Type} [DecidableEq κ]
end
section
variable {prog : Program} {w : World} {K : Type} [DecidableEq K] {knd : HeapKind prog w K} {A : Around} {E : Value -> Shared -> Prop} {s : Shared}
end
noncomputable def fA (h : Heap) (d : Addr) (es : Array DictEntry) (ep : Nat) : Prop := ∃ o, h.get? d = some o /\ o.ExactDict /\ o.data = .dict es ep
theorem fA.at {h h' : Heap} {d : Addr} {es : Array DictEntry} {ep : Nat} (x : fA h d es ep) (e : ∀ o, h.get? d = some o -> h'.get? d = some o) : fA h' d es ep := let ⟨o, ho, r⟩ := x; ⟨o, e o ho, r⟩
theorem fA.lt {h : Heap} {d : Addr} {es : Array DictEntry} {ep : Nat} (x : fA h d es ep) : d < h.objs.size := let ⟨_, ho, _⟩ := x; Heap.lt_size ho
theorem fA.ty {s : Shared} {d : Addr} {es : Array DictEntry} {ep : Nat} (x : fA s.heap d es ep) : s.TypeIs (.ref d) "dict" := let ⟨o, ho, hc, _⟩ := x; ⟨o, ho, hc.1⟩
section
variable {prog : Program} {w : World} {A : Around} {E : Value -> Shared -> Prop} {s : Shared} {d it : Addr} {es : Array DictEntry} {i ep : Nat}
theorem PB {Q : Value -> Shared -> Prop} (lo : (d == sysModules) = false) (x : fA s.heap d es ep)
 (q : Q (.ref s.heap.objs.size) { s with heap := s.heap.push { cls := .type "dict_keyiterator", data := .fields #[.ref d, .int 0 0, .int es.size 0, .int ep 0] } }) : wpAny (model prog w) A (pyIter (.ref d)) Q E s := by
 have T := x.ty
 obtain ⟨o, ho, hc, hq⟩ := x
 refine wpAny_pyIter_slot T PySem.F.slot_dict_iter (wpAny_call_entry PySem.F.slot_dict_iter T PySem.F.entry_dict_iter ?_ (PySem.F.args_dict_iter_1 _))
 unfold Builtin.«dict.__iter__»; refine wpAny_bind ?_
 unfold Builtin.Dict.dictSlotNone; refine wpAny_bind (wpAny_notOrdered_dict T ?_)
 refine wpAny_pure (a := Value.ref d) ?_
 show wpAny _ A.in1 (Builtin.Dict.showsAll d >>= _) _ _ s
 unfold Builtin.Dict.showsAll; rw [if_neg (by rw [lo]; exact Bool.false_ne_true)]
 refine wpAny_bind (wpAny_pure (wpAny_bind (wpAny_dictEntries ho hq (wpAny_bind (wpAny_dictEpoch ho hq ?_)))))
 refine wpAny_bind (wpAny_newObj_type (wpAny_pure ⟨_, rfl, "dict_keyiterator", _, ⟨_, Heap.get?_push_size _ rfl, rfl⟩, PySem.F.slot_dict_keyiterator_next.lookup, ?_⟩))
 simpa [rawInt] using q
theorem PD {Q : Option Value -> Shared -> Prop} (hit : s.heap.IsKeyIter it d i es.size ep) (x : fA s.heap d es ep) (hi : i < es.size)
 (q : ∀ h', h'.IsKeyIter it d (i + 1) es.size ep -> Heap.SameBut it s.heap h' -> Q (some es[i].key) { s with heap := h' }) : wpAny (model prog w) A (pyNext (.ref it)) Q E s := by
 obtain ⟨o, ho, hc, hd⟩ := id hit
 obtain ⟨od, hod, eH, kr⟩ := x
 have T := hit.typeIs
 unfold pyNext
 refine wpAny_bind (wpAny_attempt (wpAny_callSpecial?_slot (name := Str.ofString "__next__") T PySem.F.slot_dict_keyiterator_next (wpAny_call_entry PySem.F.slot_dict_keyiterator_next T PySem.F.entry_dict_keyiterator_next ?_ (PySem.F.args_dict_keyiterator_next_1 _))))
 refine wpAny_bind (wpAny_pure (wpAny_bind (wpAny_bind ?_)))
 first | refine wpAny_bind (wpAny_typeNameOfWhole_keyiter T (wpAny_pure (wpAny_bind (wpAny_fieldsOf ho hd ?_)))) | refine wpAny_bind (wpAny_typeNameOf_keyiter T (wpAny_pure (wpAny_bind (wpAny_fieldsOf ho hd ?_))))
 have ow : Builtin.Dict_items.ownsTuple "dict_keyiterator" = false := by decide
 simp only [ow, Bool.false_eq_true, if_false]; show wpAny _ A.in1 (if (Value.ref d == Value.none) = true then _ else _) _ _ s
 rw [if_neg (show ¬ (Value.ref d == Value.none) = true from Bool.false_ne_true)]
 refine wpAny_bind (wpAny_pure (wpAny_bind (wpAny_dictEntries hod kr ?_)))
 rw [if_neg (by simp)]; refine wpAny_bind (wpAny_pure (wpAny_bind (wpAny_dictEpoch hod kr ?_)))
 rw [if_neg (by simp)]; refine wpAny_pure ?_
 simp only [show ¬ (i : Int) < 0 by omega, if_false, Int.toNat_natCast, Array.getElem?_eq_getElem hi]; refine wpAny_bind ?_
 first | refine wpAny_bind (wpAny_typeNameOfWhole_keyiter T (wpAny_pure (wpAny_bind (wpAny_isOneOf_keyiter T ?_)))) | refine wpAny_bind (wpAny_typeNameOf_keyiter T (wpAny_pure (wpAny_bind (wpAny_isOneOf_keyiter T ?_))))
 show wpAny _ A.in1 (setField (.ref it) 1 (rawInt ((i : Int) + 1)) >>= _) _ _ s
 refine wpAny_bind (wpAny_setField ho hd (by simp) ?_)
 have ku : (s.heap.update it (Obj.mapFields (·.setIfInBounds 1 (rawInt ((i : Int) + 1))))).IsKeyIter it d (i + 1) es.size ep := ⟨_, Heap.get?_update_self _ ho (Obj.isFreed_of_fields (Obj.data_mapFields hd _)), (Obj.cls_mapFields ..).trans hc, by rw [Obj.data_mapFields hd]; simp [rawInt]⟩
 refine wpAny_bind (wpAny_holding (wpAny_bind (wpAny_isOneOf_keyiter (s := { s with heap := s.heap.update it (Obj.mapFields (·.setIfInBounds 1 (rawInt ((i : Int) + 1)))) }) ku.typeIs ?_)))
 show wpAny _ A.in1 (pure es[i].key) _ _ _
 exact wpAny_pure (wpAny_pure ⟨_, rfl, wpAny_pure (q _ ku (Heap.SameBut.update ..))⟩)
theorem PF {Q : Option Value -> Shared -> Prop} (hh : A.handled = none) (hit : s.heap.IsKeyIter it d es.size es.size ep) (x : fA s.heap d es ep)
 (q : ∀ h', Heap.ExtBut it s.heap h' -> Q none { s with heap := h' }) : wpAny (model prog w) A (pyNext (.ref it)) Q E s := by
 obtain ⟨o, ho, hc, hd⟩ := id hit
 obtain ⟨od, hod, eH, kr⟩ := x
 have T := hit.typeIs
 unfold pyNext
 refine wpAny_bind (wpAny_attempt (wpAny_callSpecial?_slot (name := Str.ofString "__next__") T PySem.F.slot_dict_keyiterator_next (wpAny_call_entry PySem.F.slot_dict_keyiterator_next T PySem.F.entry_dict_keyiterator_next ?_ (PySem.F.args_dict_keyiterator_next_1 _))))
 refine wpAny_bind (wpAny_pure (wpAny_bind (wpAny_bind ?_)))
 first | refine wpAny_bind (wpAny_typeNameOfWhole_keyiter T (wpAny_pure (wpAny_bind (wpAny_fieldsOf ho hd ?_)))) | refine wpAny_bind (wpAny_typeNameOf_keyiter T (wpAny_pure (wpAny_bind (wpAny_fieldsOf ho hd ?_))))
 have ow : Builtin.Dict_items.ownsTuple "dict_keyiterator" = false := by decide
 simp only [ow, Bool.false_eq_true, if_false]; show wpAny _ A.in1 (if (Value.ref d == Value.none) = true then _ else _) _ _ s
 rw [if_neg (show ¬ (Value.ref d == Value.none) = true from Bool.false_ne_true)]
 refine wpAny_bind (wpAny_pure (wpAny_bind (wpAny_dictEntries hod kr ?_)))
 rw [if_neg (by simp)]; refine wpAny_bind (wpAny_pure (wpAny_bind (wpAny_dictEpoch hod kr ?_)))
 rw [if_neg (by simp)]; refine wpAny_pure ?_
 simp only [show ¬ (es.size : Int) < 0 by omega, if_false, Int.toNat_natCast, Array.getElem?_eq_none (Nat.le_refl es.size)]; refine wpAny_bind ?_
 first | refine wpAny_bind (wpAny_typeNameOfWhole_keyiter T (wpAny_pure ?_)) | refine wpAny_bind (wpAny_typeNameOf_keyiter T (wpAny_pure ?_))
 show wpAny _ A.in1 (setField (.ref it) 0 .none >>= _) _ _ s
 refine wpAny_bind (wpAny_setField ho hd (by simp) ?_); show wpAny _ A.in1 (newExc (.type "StopIteration") [] >>= _) _ _ _
 refine wpAny_bind ?_; simp only [newExc, newTuple]
 refine wpAny_bind (wpAny_newObj_type ?_ (by size_fits)); refine wpAny_bind (m := firstArgMember _ _) (wpAny_of_eq (a := Value.none) (by first | rfl | (simp only [firstArgMember]; rfl)) ?_)
 refine wpAny_newObj_type ?_ (by size_fits); simp only [raiseNew]
 refine wpAny_bind (wpAny_handled ?_); rw [show A.in1.handled = none from hh]
 refine wpAny_bind (wpAny_pure (wpAny_throw ?_)); refine wpAny_bind (wpAny_isInstance (T := "StopIteration") (b := true) ⟨_, Heap.get?_push_size _ rfl, rfl⟩ isSubtype_stop ?_)
 exact wpAny_pure (q _ (((Heap.SameBut.update ..).extBut.push _).push _))
end
section
variable {prog : Program} {w : World} {A : Around} {E : Value -> Shared -> Prop} {s : Shared}
noncomputable def zL (h : Heap) (vs : List Value) (eT : List (List Int)) (i : Nat) : Prop := ∃ (p : Addr) (o : Obj) (ag : List Value) (m : Nat), vs[i]? = some (.ref p) /\ h.get? p = some o /\ o.cls = .type "tuple" /\ o.data = .seq ag.toArray m /\ IntsAre ag (eT.getD i []) /\ ag ≠ []
theorem zL.keep {h h' : Heap} {vs : List Value} {eT : List (List Int)} {i : Nat} (x : zL h vs eT i) (k : ∀ b o, h.get? b = some o -> (∀ n xs, o ≠ seqObj "list" xs n) -> h'.get? b = some o) : zL h' vs eT i := by
 obtain ⟨p, o, ag, m, h1, h2, h3, r⟩ := x
 exact ⟨p, o, ag, m, h1, k p o h2 (fun n xs z => by rw [z] at h3; exact absurd (Value.type.inj h3) (by decide)), h3, r⟩
end
noncomputable def uq (H : Hp) (xs : List V) (kvs : List (List Key × V)) : Prop := ay (fun x (kv : List Key × V) => ∃ a, x = .ref a /\ H a = some (.tup (kv.1.map kV))) xs kvs
theorem KT.PH {H : Hp} {kvs : List (List Key × V)} {xs : List (List Key × Addr × Value)} (r : KT H kvs xs) : uq H ((xs.map (·.2.1)).map V.ref) kvs := by
 induction r with
 | nil => exact trivial
 | cons h t ih => exact ⟨⟨_, rfl, h.2.1⟩, ih⟩
section
variable {X : Cx} {pins : List (Addr × Obj)} {σ : L2.St} {H : Hp} {s : Shared} {p : Addr} {kvs : List (List Key × V)}
end
section
variable {X : Cx} {pins : List (Addr × Obj)} {σ : L2.St} {H : Hp} {s : Shared} {p b : Addr} {kvs : List (List Key × V)} {k : List Key} {A : Around} {E : Value -> Shared -> Prop}
end
section
variable {X : Cx} {o e f : Expr} {td ty tx : TE} {apos cJ : Pos}
end
section
variable {prog : Program} {w : World} {K : Type} [DecidableEq K] {knd : KeyKind prog w K} {A : Around} {E : Value -> Shared -> Prop} {s : Shared} {o d : Addr} {es : Array DictEntry} {ep : Nat}
end
end Gz
namespace Gz
open PySem PySem.Spec PyProof.Rows L2
local macro_rules | `(tactic| walk_at "om") => `(tactic| ((try simp only [PySem.Addr] at *); omega))
section
variable {prog : Program} {w : World} {A : Around} {E : Value -> Shared -> Prop} {s : Shared}
end
noncomputable abbrev KD (prog : Program) (w : World) := tupleKind (gO prog w)
noncomputable abbrev Row := Addr × List Key × Addr × Value
section
variable {prog : Program} {w : World} {A : Around} {E : Value -> Shared -> Prop} {s : Shared}
theorem PJ {h h' : Heap} {k : List Key} {a : Addr} (x : (KD prog w).is h k a) (e : ∀ o, h.get? a = some o -> h'.get? a = some o) : (KD prog w).is h' k a :=
 let ⟨o, ag, n, h1, r⟩ := x; ⟨o, ag, n, e o h1, r⟩
noncomputable def zM (prog : Program) (w : World) (h : Heap) (r : Row) : Prop := (∃ o m, h.get? r.1 = some o /\ o.cls = .type "tuple" /\ o.data = .seq #[.ref r.2.2.1, r.2.2.2] m) /\ (KD prog w).is h r.2.1 r.2.2.1
theorem zM.keep {h h' : Heap} {r : Row} (x : zM prog w h r) (e1 : ∀ o, h.get? r.1 = some o -> h'.get? r.1 = some o) (e2 : ∀ o, h.get? r.2.2.1 = some o -> h'.get? r.2.2.1 = some o) : zM prog w h' r :=
 let ⟨⟨o, m, a, b⟩, c⟩ := x; ⟨⟨o, m, e1 o a, b⟩, PJ c e2⟩
end
section
variable {X : Cx} {pins : List (Addr × Obj)} {σ : L2.St} {H : Hp} {s : Shared}
end
end Gz
namespace Gz
open PySem PySem.Spec PyProof.Rows L2
theorem bz {c : Prop} [Decidable c] {a b : Prop} (h : c -> a) (h' : ¬ c -> b) : if c then a else b := by
 by_cases z : c
 ·rw [if_pos z]; exact h z
 ·rw [if_neg z]; exact h' z
theorem PK {prog : Program} {w : World} {A : Around} {E : Value -> Shared -> Prop} {s : Shared} {T : String} {r d : Addr} {n : Nat} {P : Nat -> Value -> Prop} {OK : Heap -> Prop} {R : List Value -> Shared -> Prop}
 (src : PySem.W.KdlSrc prog w T r d n P OK) (ha : A.handled = none) (ho : OK s.heap) (hs : n <= sizeLine)
 (k : ∀ (g : Heap) (tk : Nat) (acc : Array Value), s.heap.objs.size < g.objs.size -> (∀ b o, s.heap.get? b = some o -> g.get? b = some o) -> ItemsOf P acc n -> R acc.toList { s with heap := g, toks := tk }) :
 wpAny (model prog w) A (collect (.ref r)) R E s := by
 obtain ⟨lr, ld⟩ := src.there _ ho
 have e0 : (s.heap.push { cls := .type "list", data := .seq ([] : List Value).toArray }).get? s.heap.objs.size = some { cls := .type "list", data := .seq #[] } := Heap.get?_push_size _ rfl
 have key := PySem.W.kdl_extend (A := A) (s := { s with heap := s.heap.push { cls := .type "list", data := .seq ([] : List Value).toArray } })
  (R := fun (q : Result) (u : Shared) => ∃ (g : Heap) (tk : Nat) (acc : Array Value) (c : Nat), q = .ok (.ret (.ref s.heap.objs.size)) /\ u = { s with heap := g, toks := tk } /\ (∀ b o, s.heap.get? b = some o -> g.get? b = some o) /\
    g.get? s.heap.objs.size = some { cls := .type "list", dict := none, data := .seq acc c, slots := #[] } /\ ItemsOf P acc n)
  src ha (src.keep _ _ ho fun b _ o e => Heap.get?_push_of_some _ e) s.heap.objs.size (Nat.ne_of_gt lr) (Nat.ne_of_gt ld) (.ref s.heap.objs.size) 0 e0
  (fun g tk acc c hk hS hi => ⟨g, tk, acc, c, rfl, rfl, fun b o e => hk b o (Nat.ne_of_lt (Heap.lt_size e)) (Heap.get?_push_of_some _ e), hS, hi⟩) hs
 unfold collect
 refine wpAny_bind (wpAny_runValue (codeAny_builtin entry_proto_collect' ?_)); rw [Around.under_plainId PySem.F.plain_proto_collect _]
 show wpAny _ A.in1 (newList [] >>= fun z => again (.builtin "list.__iadd__" ⟨[z, .ref r], []⟩)) _ _ s
 refine wpAny_bind (wpAny_newObj_type (wpAny_pure ⟨plainId_quiet PySem.F.plain_list_iadd _, codeAny_builtin entry_list_iadd' ?_⟩)); rw [Around.under_plainId PySem.F.plain_list_iadd _]
 show wpAny _ A.in1 (Builtin.List.listExtendWith (.ref s.heap.objs.size) (.ref r) (.ref s.heap.objs.size)) _ _ _; refine wpAny_mono key (fun f u x => ?_) fun e u x => ?_
 ·cases f with
  | done f =>
   obtain ⟨g, tk, acc, c, e, rfl, hk, hS, hi⟩ := x
   cases e
   show wpAny _ A (load s.heap.objs.size >>= _) _ _ _
   exact wpAny_bind (wpAny_load hS (wpAny_pure (k g tk acc (Heap.lt_size hS) hk hi)))
  | again c1 =>
   refine ⟨x.1, codeAny_mono x.2 fun q u y => ?_⟩
   obtain ⟨g, tk, acc, c, rfl, rfl, hk, hS, hi⟩ := y
   show wpAny _ A (load s.heap.objs.size >>= _) _ _ _
   exact wpAny_bind (wpAny_load hS (wpAny_pure (k g tk acc (Heap.lt_size hS) hk hi)))
 ·obtain ⟨_, _, _, _, z, _⟩ := x
  cases z
section
variable {X : Cx} {pos : Pos}
theorem Inv.PL {pins : List (Addr × Obj)} {σ : L2.St} {H : Hp} {s : Shared} (I : Inv X pins σ H s) : sysModules < s.heap.objs.size := by
 have h : mainGlobals < s.heap.objs.size := (I.mod.glob.keeps I.bk).lt
 exact Nat.lt_trans (by decide) h
noncomputable def qJ : TE := fun _ H Q => ∀ p, H p = none -> Q (.ref p) (upd H p (.dT []))
theorem HG : PE X (.Dict [] [] pos) qJ := fun pins s σ H Q I h => wpAny_Dict_empty
 ⟨.ref s.heap.objs.size, _, I.laid (a := s.heap.objs.size) (o := .dT []) (t' := s.toks) (fun _ _ z => Heap.get?_push_of_some _ z) (Nat.le_refl _)
  ⟨Nat.zero_le _, beq_eq_false_iff_ne.mpr (Ne.symm (Nat.ne_of_lt (Inv.PL I))), [], .nil, _, #[], 0, Heap.get?_push_size _ rfl, ⟨rfl, rfl, rfl⟩, rfl, rfl, List.nodup_nil⟩, rfl, h _ (I.ar.fresh (Nat.le_refl _))⟩
theorem zN {e : Expr} : PE X e (fun _ _ _ => False) := fun _ _ _ _ _ _ h => h.elim
theorem HH {x : Str} {n : Int} (h : ∃ t, X.mg x = some (.int n t)) (hg : Gl X x) (hd : (x == ("__debug__" : Str)) = false := by decide) : PE X (.Name x pos) (tC (.int n)) := by
 obtain ⟨t, ht⟩ := h
 exact dt (v := .int n) hg ht ⟨t, rfl⟩ hd
end
end Gz
namespace Gz
open PySem PySem.Spec PyProof.Rows L2
local macro_rules | `(tactic| walk_at "om") => `(tactic| ((try simp only [PySem.Addr] at *); omega))
section
variable {M : Model} {A : Around} {E : Value -> Shared -> Prop} {s : Shared} {B : Heap} {l outer : List Env} {env : Env} {L x C : Addr} {cls a0 mk : Value} {Q : Unit -> Shared -> Prop}
end
section
variable {P : Program} {w : World} {K : PySem.W.Frag} {mg : Str -> Option Value} {base : Heap} {N : List Str} {qual : Str} {scope : Scope} {f : Addr} {cd : Value} {A : Around} {outer : List Env} {s : Shared} {H : Hp} {E : XK}
end
section
variable {X : Cx} {pins : List (Addr × Obj)} {σ : L2.St} {H2 : Hp} {s2 : Shared} {x : Str} {px pos : Pos} {elt iter : Expr} {ifs : List Expr} {scope : Scope} {cl : List (Str × Addr)} {fr : List Nat} {ys : List Str} {tt : TT} {te : TE}
end
section
variable {X : Cx} {F : Value -> Shared -> Prop} {pins pn : List (Addr × Obj)} {σ : L2.St} {H : Hp} {s : Shared} {A' : Around}
end
end Gz
namespace Gz
open PySem PySem.Spec PyProof.Rows L2
noncomputable def lN (ks : List P2) (r : Int) (i : Nat) : Bool := decide ((aD ks i).1 <= r) && decide (r <= (aD ks (i + 1)).1)
end Gz
namespace Gz
open PySem PySem.Spec PyProof.Rows L2
local macro_rules | `(tactic| walk_at "om") => `(tactic| ((try simp only [PySem.Addr] at *); omega))
noncomputable abbrev Tb := List (P2 × S2)
noncomputable def iq (i j : Int) : List Key := [.inl i, .inl j]
theorem HI {a b : P2} (h : iq a.1 a.2 = iq b.1 b.2) : a = b := by
 unfold iq at h
 injection h with h1 h2
 injection h2 with h2 _
 exact Prod.ext (Sum.inl.inj h1) (Sum.inl.inj h2)
noncomputable def zO (tb : Tb) (s : P2) : Tb := tb.filter fun r => decide (r.1 ≠ s)
noncomputable def cL (H : Hp) : List (List Key × V) -> Tb -> Prop
 | [], [] => True
 | kv :: kvs, r :: tb => (kv.1 = iq r.1.1 r.1.2 /\ bb H kv.2 r.2.1 r.2.2) /\ cL H kvs tb
 | _, _ => False
section
variable {H H' : Hp} {kvs : List (List Key × V)} {tb : Tb}
theorem cL.len : ∀ {kvs : List (List Key × V)} {tb : Tb}, cL H kvs tb -> kvs.length = tb.length
 | [], [], _ => rfl
 | _ :: kvs, _ :: tb, h => congrArg (· + 1) (cL.len (kvs := kvs) (tb := tb) h.2)
 | [], _ :: _, h => h.elim
 | _ :: _, [], h => h.elim
theorem cL.imp (f : ∀ v a b, bb H v a b -> bb H' v a b) : ∀ {kvs : List (List Key × V)} {tb : Tb}, cL H kvs tb -> cL H' kvs tb
 | [], [], _ => trivial
 | _ :: kvs, _ :: tb, h => ⟨⟨h.1.1, f _ _ _ h.1.2⟩, cL.imp f (kvs := kvs) (tb := tb) h.2⟩
 | [], _ :: _, h => h.elim
 | _ :: _, [], h => h.elim
theorem cL.any (s : P2) : ∀ {kvs : List (List Key × V)} {tb : Tb}, cL H kvs tb -> (kvs.any fun kv => decide (kv.1 = iq s.1 s.2)) = tb.any fun r => decide (r.1 = s)
 | [], [], _ => rfl
 | kv :: kvs, r :: tb, h => by
  rw [List.any_cons, List.any_cons, cL.any s (kvs := kvs) (tb := tb) h.2, h.1.1]
  congr 1
  by_cases e : r.1 = s
  ·rw [e, decide_eq_true rfl, decide_eq_true rfl]
  ·rw [decide_eq_false e, decide_eq_false fun z => e (HI z)]
 | [], _ :: _, h => h.elim
 | _ :: _, [], h => h.elim
theorem cL.drop {s : P2} : ∀ {kvs : List (List Key × V)} {tb : Tb}, cL H kvs tb -> cL H (sI kvs (iq s.1 s.2)) (zO tb s)
 | [], [], _ => trivial
 | kv :: kvs, r :: tb, h => by
  have ih := cL.drop (s := s) (kvs := kvs) (tb := tb) h.2
  unfold sI zO at *
  rw [List.filter_cons, List.filter_cons]
  by_cases e : r.1 = s
  ·have e2 : kv.1 = iq s.1 s.2 := h.1.1.trans (by rw [e])
   rw [if_neg (by simp [e2]), if_neg (by simp [e])]; exact ih
  ·have e2 : ¬ kv.1 = iq s.1 s.2 := fun z => e (HI (h.1.1.symm.trans z))
   rw [if_pos (by simp [e2]), if_pos (by simp [e])]; exact ⟨h.1, ih⟩
 | [], _ :: _, h => h.elim
 | _ :: _, [], h => h.elim
end
noncomputable def TabAt (H : Hp) (p : Addr) (tb : Tb) : Prop := ∃ kvs, H p = some (.dT kvs) /\ cL H kvs tb
noncomputable def Fr (H H' : Hp) : Prop := ∀ b o, (∀ kvs, o ≠ HO.dT kvs) -> H b = some o -> H' b = some o
noncomputable def ur (ps : List Addr) (H H' : Hp) : Prop := ∀ b o, b ∉ ps -> H b = some o -> H' b = some o
section
variable {H H' H2 : Hp} {ps qs : List Addr} {p q : Addr} {tb : Tb}
theorem Fr.trans (a : Fr H H') (b : Fr H' H2) : Fr H H2 := fun c o h e => b c o h (a c o h e)
theorem ur.trans (a : ur ps H H') (b : ur ps H' H2) : ur ps H H2 := fun c o h e => b c o h (a c o h e)
theorem TabAt.ne (h : TabAt H p tb) (hq : H q = none) : p ≠ q := fun z => by obtain ⟨kvs, a, _⟩ := h; rw [z, hq] at a; cases a
end
noncomputable def zP (e t : Int) (s : P2) : Prop := (0 <= s.1 /\ s.1 < e) /\ 0 <= s.2 /\ s.2 < t
instance (e t : Int) (s : P2) : Decidable (zP e t s) := by unfold zP; infer_instance
noncomputable def qK (e t : Int) (tb : Tb) : Prop := (tb.map (·.1)).Nodup /\ ∀ r ∈ tb, zP e t r.1
theorem qK.drop {e t : Int} {tb : Tb} {s : P2} (h : qK e t tb) : qK e t (zO tb s) :=
 ⟨h.1.sublist ((List.filter_sublist).map _), fun r hr => h.2 r (List.mem_filter.mp hr).1⟩
theorem qK.nil {e t : Int} : qK e t [] := ⟨List.nodup_nil, fun r h => by cases h⟩
theorem ay.HJ {α β : Type} {R : V -> α -> Prop} {f : β -> α} : ∀ {xs : List V} {bs : List β}, ay (fun x b => R x (f b)) xs bs -> ay R xs (bs.map f)
 | [], [], _ => trivial
 | _ :: _, _ :: _, h => ⟨h.1, ay.HJ h.2⟩
 | [], _ :: _, h => h.elim
 | _ :: _, [], h => h.elim
end Gz
namespace Gz
open PySem PySem.Spec PyProof.Rows L2
theorem PM {a b c d : En} (h : ba a b = true) : ba (cv a c) (cw b d) = true := by
 rcases a with _ | x <;> rcases b with _ | y <;> rcases c with _ | z <;> rcases d with _ | w <;> simp [ba, cv, cw] at h ⊢ <;> omega
noncomputable def bh (e : S2) (ss : List S2) : S2 := ss.foldl (fun e s => (cv e.1 s.1, cw e.2 s.2)) e
theorem uu (e s : S2) (ss : List S2) : bh e (s :: ss) = bh (cv e.1 s.1, cw e.2 s.2) ss := rfl
theorem HK : ∀ (ss : List S2) {e : S2}, ba e.1 e.2 = true -> ba (bh e ss).1 (bh e ss).2 = true
 | [], _, h => h
 | s :: ss, e, h => by
  rw [uu]
  exact HK ss (PM h)
theorem PN {ss : List S2} {e : S2} {i : Nat} (h : ba (bh e (ss.take i)).1 (bh e (ss.take i)).2 = true) : ba (bh e ss).1 (bh e ss).2 = true := by
 have : bh e ss = bh (bh e (ss.take i)) (ss.drop i) := by
  unfold bh
  rw [<- List.foldl_append, List.take_append_drop]
 rw [this]
 exact HK _ h
theorem PQ {ss : List S2} {e s : S2} {i : Nat} (h : ss[i]? = some s) : bh e (ss.take (i + 1)) = (cv (bh e (ss.take i)).1 s.1, cw (bh e (ss.take i)).2 s.2) := by
 unfold bh
 rw [List.take_succ, h, List.foldl_append]
 rfl
noncomputable def cF (e : S2) (ss : List S2) : W2 := if ba (bh e ss).1 (bh e ss).2 = true then none else some (bh e ss)
theorem ir {H : Hp} : ∀ {xs : List V} {ss : List S2}, fw H xs ss ↔ ay (fun x s => bb H x s.1 s.2) xs ss
 | [], [] => Iff.rfl
 | _ :: _, _ :: _ => and_congr Iff.rfl ir
 | [], _ :: _ => Iff.rfl
 | _ :: _, [] => Iff.rfl
noncomputable abbrev Pa := Str × Int × S2
noncomputable def eX (H : Hp) (v : V) (p : Pa) : Prop := ∃ (t q : Addr), v = .ref t /\ H t = some (.tup [.str p.1, .int p.2.1, .ref q]) /\ H q = some (.tup [ev p.2.2.1, ev p.2.2.2])
theorem eX.same {H H' : Hp} {v : V} {p : Pa} (h : eX H v p) (s : aw H H') : eX H' v p := let ⟨t, q, e, a, b⟩ := h; ⟨t, q, e, s _ _ a, s _ _ b⟩
noncomputable abbrev bX (H : Hp) : List V -> List Pa -> Prop := ay (eX H)
theorem bX.same {H H' : Hp} {xs : List V} {ps : List Pa} (h : bX H xs ps) (s : aw H H') : bX H' xs ps := ay.imp (fun _ _ r => r.same s) h
theorem eX.fr {H : Hp} {v : V} {p : Pa} {r : Addr} {ys : List V} {o : HO} (h : eX H v p) (hr : H r = some (.lst ys)) : eX (upd H r o) v p := by
 obtain ⟨t, q, e, a, b⟩ := h
 have h1 : t ≠ r := fun z => by rw [z, hr] at a; cases a
 have h2 : q ≠ r := fun z => by rw [z, hr] at b; cases b
 exact ⟨t, q, e, by rw [aH h1]; exact a, by rw [aH h2]; exact b⟩
theorem bX.put {H : Hp} {xs : List V} {ps : List Pa} {r : Addr} {ys : List V} {o : HO} (h : bX H xs ps) (hr : H r = some (.lst ys)) : bX (upd H r o) xs ps := ay.imp (fun _ _ x => x.fr hr) h
noncomputable def fU (k : Str) (t : Int) (p : Pa) : Bool := decide (p.1 = k) && decide (p.2.1 = t)
noncomputable def sel (ps : List Pa) (k : Str) (t : Int) : List S2 := (ps.filter (fU k t)).map (·.2.2)
noncomputable def hasB (n : Int) (k : Str) (t : Int) : Bool := if k = "step" then decide (0 <= t /\ t < n) && decide (0 <= t + 1 /\ t + 1 < n) else decide (k = "at") && decide (0 <= t /\ t < n)
noncomputable def di (n : Int) (ps : List Pa) : Prop := ∀ p ∈ ps, hasB n p.1 p.2.1 = true
theorem lY {n t : Int} : hasB n "step" t = true ↔ 0 <= t /\ t + 1 < n := by
 unfold hasB
 rw [if_pos rfl]
 simp only [Bool.and_eq_true, decide_eq_true_eq]
 omega
theorem eY {n t : Int} {k : Str} (h : k ≠ "step") : hasB n k t = true ↔ k = "at" /\ 0 <= t /\ t < n := by
 unfold hasB
 rw [if_neg h]
 simp only [Bool.and_eq_true, decide_eq_true_eq]
noncomputable def fV (cs : List Int) (k : Str) (t : Int) : Int := if k = "step" then cs.getD (t + 1).toNat 0 - cs.getD t.toNat 0 else cs.getD t.toNat 0
noncomputable def gG (cs : List Int) (ps : List Pa) : Bool := ps.all fun p => hold p.2.2.1 p.2.2.2 (fV cs p.1 p.2.1)
theorem int_at {cs : List Int} {t : Int} (h0 : 0 <= t) (h1 : t < (cs.length : Int)) : b8 (cs.map V.int) t = some (.int (cs.getD t.toNat 0)) := by
 have e : t = ((t.toNat : Nat) : Int) := by omega
 refine (congrArg (b8 _) e).trans (df ?_)
 rw [List.getElem?_map, List.getD_eq_getElem?_getD, List.getElem?_eq_getElem (by omega)]
 rfl
structure Gd (n : Nat) (d : PyData) : Prop where
 eqv : PyData.eqv d d = true
 lay : d.canLay0 = true
 dep : d.depth <= n
theorem Gd.up {n m : Nat} {d : PyData} (h : Gd n d) (hm : n <= m) : Gd m d := ⟨h.eqv, h.lay, Nat.le_trans h.dep hm⟩
theorem Gd.of {n : Nat} {d : PyData} (h : el n d = true) : Gd n d := let ⟨a, b, c⟩ := zH d h; ⟨a, b, c⟩
theorem Gd.str {x : Str} (h : PyData.strOk x = true) : Gd 0 (.str x) := ⟨by simp [PyData.eqv], by simpa [PyData.canLay0] using h, Nat.le_refl _⟩
theorem Gd.int (i : Int) : Gd 0 (.int i) := .of rfl
theorem Gd.all : ∀ {ds : List PyData} {n : Nat}, (∀ d ∈ ds, Gd n d) -> PyData.eqvAll ds ds = true /\ PyData.canLayAll0 ds = true /\ PyData.depthAll ds <= n
 | [], n, _ => ⟨rfl, rfl, Nat.zero_le _⟩
 | d :: ds, n, h => by
  obtain ⟨a, b, c⟩ := h d (.head _)
  obtain ⟨a', b', c'⟩ := Gd.all (ds := ds) fun x hx => h x (.tail _ hx)
  exact ⟨by simp only [PyData.eqvAll, a, a', Bool.and_self], by simp only [PyData.canLayAll0, b, b', Bool.and_self], by simp only [PyData.depthAll]; omega⟩
theorem Gd.lst {ds : List PyData} {n : Nat} (h : ∀ d ∈ ds, Gd n d) : Gd (n + 1) (.list ds) := by
 obtain ⟨a, b, c⟩ := Gd.all h
 exact ⟨by simpa only [PyData.eqv] using a, by simpa only [PyData.canLay0] using b, by simp only [PyData.depth]; omega⟩
theorem Gd.tup {ds : List PyData} {n : Nat} (h : ∀ d ∈ ds, Gd n d) : Gd (n + 1) (.tuple ds) := by
 obtain ⟨a, b, c⟩ := Gd.all h
 exact ⟨by simpa only [PyData.eqv] using a, by simpa only [PyData.canLay0] using b, by simp only [PyData.depth]; omega⟩
theorem HL {K : PySem.W.Frag} {H : Hp} {x y : V} {d : PyData} {n : Nat} {neg : Bool} {Q : VK} (hx : Dat K H x d) (hy : Dat K H y d) (g : Gd n d) (hn : n <= 60) (q : Q (.bl (!neg)) H) : tV K neg x y H Q := by
 refine ⟨d, d, hx, hy, g.lay, g.lay, Nat.le_trans g.dep hn, ?_⟩
 rw [g.eqv]
 cases neg <;> exact q
theorem PR (s : S2) : Gd 1 (zB s) := .of (by
 obtain ⟨a, b⟩ := s
 cases a <;> cases b <;> rfl)
theorem dG.zQ {α : Type} {K : PySem.W.Frag} {H : Hp} {R : V -> α -> Prop} {f : α -> PyData} (h : ∀ v a, R v a -> Dat K H v (f a)) : ∀ {xs : List V} {as : List α}, ay R xs as -> dG K H xs (as.map f)
 | [], [], _ => .nil
 | _ :: _, _ :: _, r => .cons (h _ _ r.1) (dG.zQ h r.2)
 | [], _ :: _, r => r.elim
 | _ :: _, [], r => r.elim
noncomputable def zR (p : Pa) : PyData := .tuple [.str p.1, .int p.2.1, zB p.2.2]
theorem eX.dat {K : PySem.W.Frag} {H : Hp} {v : V} {p : Pa} (h : eX H v p) : Dat K H v (zR p) := by
 obtain ⟨t, q, rfl, a, b⟩ := h
 exact .tup (ai.of a) (.cons (.str _) (.cons (.int _) (.cons (bb.dat ⟨q, rfl, b⟩) .nil)))
theorem PU {p : Pa} (h : PyData.strOk p.1 = true) : Gd 2 (zR p) := .tup fun d hd => by
 simp only [List.mem_cons, List.not_mem_nil, or_false] at hd
 rcases hd with rfl | rfl | rfl
 ·exact (Gd.str h).up (by decide)
 ·exact (Gd.int _).up (by decide)
 ·exact PR _
end Gz
namespace Gz
open PySem PySem.Spec PyProof.Rows L2
theorem uv {α β : Type} {R : V -> α -> Prop} {R' : V -> β -> Prop} {Ok : Hp -> Prop} {ρ : L2.St} {tt : TT} {te : TE} {p : α -> Bool} {f : α -> β} {Q' : List V -> Hp -> Prop} {H : Hp} (dN : Ok H) : ∀ {xs : List V} {as : List α} {ys : List V}, ay R xs as ->
 (∀ x a, R x a -> ∀ Q, Q (p a) H -> tt (some x :: ρ) H Q) -> (∀ x a, p a = true -> R x a -> ∀ Q : VK, (∀ y, R' y (f a) -> Q y H) -> te (some x :: ρ) H Q) -> (∀ zs, ay R' zs ((as.filter p).map f) -> Q' (ys ++ zs) H) -> dF Ok ρ tt te xs ys H Q'
 | [], [], ys, _, _, _, q => ⟨dN, by simpa using q [] trivial⟩
 | x :: xs, a :: as, ys, h, ht, he, q => by
  refine ⟨dN, ht x a h.1 _ ?_⟩
  by_cases hb : p a = true
  ·rw [if_pos hb]
   refine he x a hb h.1 _ fun y ry => uv dN h.2 ht he fun zs hz => ?_
   have := q (y :: zs) (by rw [List.filter_cons, if_pos hb]; exact ⟨ry, hz⟩)
   simpa using this
  ·rw [if_neg hb]
   refine uv dN h.2 ht he fun zs hz => q zs ?_
   rw [List.filter_cons, if_neg hb]
   exact hz
 | [], _ :: _, _, h, _, _, _ => h.elim
 | _ :: _, [], _, h, _, _, _ => h.elim
end Gz
namespace Gz
open PySem PySem.Spec PyProof.Rows L2
theorem uw {K : PySem.W.Frag} {i j k : Nat} {p : Addr} {x y z : V} {σ : L2.St} {H : Hp} {Q : L2.St -> Hp -> Prop} (h : ai K H p [x, y, z]) (q : Q (((σ.set i (some x)).set j (some y)).set k (some z)) H) : jX K 3 (cf (b6 i) (cf (b6 j) (cf (b6 k) ff))) (.ref p) σ H Q :=
 ⟨p, _, rfl, h, rfl, _, _, rfl, _, _, rfl, _, _, rfl, rfl, q⟩
end Gz
namespace Gz
open PySem PySem.Spec PyProof.Rows L2
theorem zS {X : Cx} {K : PySem.W.Frag} (h : X.K = K) : bI X (binaryOp .Add) (Gr K) := h ▸ M6
theorem PV {α : Type} {R : V -> α -> Prop} {xs : List V} {as : List α} {p : Int} (h : ay R xs as) (h0 : 0 <= p) (h1 : p < (as.length : Int)) : ∃ v a, a ∈ as /\ b8 xs p = some v /\ R v a := by
 have e : p = ((p.toNat : Nat) : Int) := by omega
 obtain ⟨v, hv, r⟩ := h.at (List.getElem?_eq_getElem (l := as) (i := p.toNat) (by omega))
 exact ⟨v, _, List.getElem_mem _, (congrArg (b8 _) e).trans (df hv), r⟩
end Gz
namespace Gz
open PySem L2
theorem PX {H : Hp} {x dx C : Addr} {fs : List (Str × V)} (hx : H x = none) (hd : H dx = none) (hn : dx ≠ x) : aw H (upd (upd H dx (.own x)) x (.ins C dx fs)) :=
 (au hd).trans (au (by rw [aH (Ne.symm hn)]; exact hx))
end Gz
namespace Gz
open PySem L2
noncomputable def bw (s : S2) (x : Int) : Prop := (∀ a, s.1 = some a -> a <= x) /\ ∀ b, s.2 = some b -> x <= b
noncomputable def cR (w : W2) (x : Int) : Prop := ∃ s, w = some s /\ bw s x
theorem HM {s : S2} {x : Int} : bw s x ↔ hold s.1 s.2 x = true := zy.symm
theorem zT {a b : S2} {x : Int} : bw (cv a.1 b.1, cw a.2 b.2) x ↔ bw a x /\ bw b x := by
 obtain ⟨a1, a2⟩ := a
 obtain ⟨b1, b2⟩ := b
 unfold bw
 rcases a1 with _ | p <;> rcases a2 with _ | q <;> rcases b1 with _ | r <;> rcases b2 with _ | s <;> simp [cv, cw] <;> (try split) <;> (try split) <;> omega
theorem HN {ss : List S2} {x : Int} : ∀ {e : S2}, bw (bh e ss) x ↔ bw e x /\ ∀ s ∈ ss, bw s x := by
 induction ss with
 | nil => intro e; exact ⟨fun h => ⟨h, fun _ z => nomatch z⟩, fun h => h.1⟩
 | cons s ss ih =>
  intro e
  rw [uu, ih, zT]
  simp only [List.mem_cons, forall_eq_or_imp, and_assoc]
theorem PY {s : S2} (h : ba s.1 s.2 = false) : ∃ x, bw s x := by
 obtain ⟨a, b⟩ := s
 rcases a with _ | a <;> rcases b with _ | b
 ·exact ⟨0, fun _ z => (nomatch z), fun _ z => (nomatch z)⟩
 ·exact ⟨b, fun _ z => (nomatch z), fun _ z => by cases z; exact Int.le_refl _⟩
 ·exact ⟨a, fun _ z => by cases z; exact Int.le_refl _, fun _ z => (nomatch z)⟩
 ·refine ⟨a, fun _ z => by cases z; exact Int.le_refl _, fun _ z => ?_⟩
  cases z
  simp [ba] at h
  exact h
theorem HP {s : S2} {x : Int} (h : bw s x) : ba s.1 s.2 = false := by
 obtain ⟨a, b⟩ := s
 rcases a with _ | a <;> rcases b with _ | b
 ·rfl
 ·rfl
 ·rfl
 ·have h1 := h.1 a rfl
  have h2 := h.2 b rfl
  simp [ba]
  omega
noncomputable def eZ (a b : S2) : W2 := if ba (cv a.1 b.1) (cw a.2 b.2) = true then none else some (cv a.1 b.1, cw a.2 b.2)
theorem lZ {a b : S2} {x : Int} : cR (eZ a b) x ↔ bw a x /\ bw b x := by
 unfold eZ
 constructor
 ·rintro ⟨s, e, h⟩
  split at e
  ·cases e
  ·cases e
   exact zT.mp h
 ·intro h
  have h := zT.mpr h
  rw [if_neg (by rw [HP h]; simp)]
  exact ⟨_, rfl, h⟩
theorem HQ {a b s : S2} (h : eZ a b = some s) : ba s.1 s.2 = false := by
 unfold eZ at h
 split at h
 ·cases h
 ·rename_i hc
  cases h
  simpa using hc
theorem zU {ss : List S2} {x : Int} : cR (cF (none, none) ss) x ↔ ∀ s ∈ ss, bw s x := by
 have e0 : bw (none, none) x := ⟨fun _ z => (nomatch z), fun _ z => (nomatch z)⟩
 unfold cF
 constructor
 ·rintro ⟨s, e, h⟩
  split at e
  ·cases e
  ·cases e
   exact (HN.mp h).2
 ·intro h
  have h := HN.mpr ⟨e0, h⟩
  rw [if_neg (by rw [HP h]; simp)]
  exact ⟨_, rfl, h⟩
noncomputable def cW (s : S2) (p : P2) : S2 := (s.1.map (· + p.1), s.2.map (· + p.2))
theorem zV {s : S2} {p : P2} {x y : Int} (h : bw s x) (h1 : p.1 <= y - x) (h2 : y - x <= p.2) : bw (cW s p) y := by
 obtain ⟨a, b⟩ := s
 refine ⟨fun z e => ?_, fun z e => ?_⟩
 ·obtain ⟨a, ea, rfl⟩ := Option.map_eq_some_iff.mp (show a.map (· + p.1) = some z from e)
  have := h.1 a ea
  omega
 ·obtain ⟨b, eb, rfl⟩ := Option.map_eq_some_iff.mp (show b.map (· + p.2) = some z from e)
  have := h.2 b eb
  omega
theorem PZ {s : S2} {p : P2} {y : Int} (hs : ba s.1 s.2 = false) (hp : p.1 <= p.2) (h : bw (cW s p) y) : ∃ x, bw s x /\ p.1 <= y - x /\ y - x <= p.2 := by
 obtain ⟨a, b⟩ := s
 rcases a with _ | a <;> rcases b with _ | b
 ·exact ⟨y - p.1, ⟨fun _ z => (nomatch z), fun _ z => (nomatch z)⟩, by omega, by omega⟩
 ·have h2 := h.2 (b + p.2) rfl
  exact ⟨y - p.2, ⟨fun _ z => (nomatch z), fun _ z => by cases z; omega⟩, by omega, by omega⟩
 ·have h1 := h.1 (a + p.1) rfl
  exact ⟨y - p.1, ⟨fun _ z => by cases z; omega, fun _ z => (nomatch z)⟩, by omega, by omega⟩
 ·have h1 := h.1 (a + p.1) rfl
  have h2 := h.2 (b + p.2) rfl
  simp [ba] at hs
  by_cases hc : a <= y - p.2
  ·exact ⟨y - p.2, ⟨fun _ z => by cases z; omega, fun _ z => by cases z; omega⟩, by omega, by omega⟩
  ·exact ⟨a, ⟨fun _ z => by cases z; omega, fun _ z => by cases z; omega⟩, by omega, by omega⟩
noncomputable def a8 (bx : Nat -> W2) (st : Nat -> P2) : Nat -> W2
 | 0 => bx 0
 | t + 1 => match bx (t + 1), a8 bx st t with
  | some b, some k => eZ b (cW k (st t))
  | _, _ => none
noncomputable def qL (w : W2) : Prop := ∀ s, w = some s -> ba s.1 s.2 = false
theorem ux {bx : Nat -> W2} {st : Nat -> P2} (h0 : qL (bx 0)) : ∀ t, qL (a8 bx st t)
 | 0 => h0
 | t + 1 => fun s e => by
  unfold a8 at e
  split at e
  ·exact HQ e
  ·cases e
theorem HR {bx : Nat -> W2} {st : Nat -> P2} {t : Nat} {s : S2} (h : a8 bx st (t + 1) = some s) : ∃ b k, bx (t + 1) = some b /\ a8 bx st t = some k /\ eZ b (cW k (st t)) = some s := by
 unfold a8 at h
 split at h
 ·rename_i b k e1 e2
  exact ⟨b, k, e1, e2, h⟩
 ·cases h
theorem HS {bx : Nat -> W2} {st : Nat -> P2} {c : Nat -> Int} {n : Nat} (hb : ∀ t, t <= n -> cR (bx t) (c t)) (hs : ∀ t, t < n -> (st t).1 <= c (t + 1) - c t /\ c (t + 1) - c t <= (st t).2) : ∀ t, t <= n -> cR (a8 bx st t) (c t)
 | 0, h => hb 0 h
 | t + 1, h => by
  obtain ⟨k, ek, hk⟩ := HS hb hs t (by omega)
  obtain ⟨b, eb, zW⟩ := hb (t + 1) h
  obtain ⟨h1, h2⟩ := hs t (by omega)
  unfold a8
  rw [eb, ek]
  exact lZ.mpr ⟨zW, zV hk h1 h2⟩
theorem zX {bx : Nat -> W2} {st : Nat -> P2} {x : Int} : ∀ {t : Nat}, cR (a8 bx st t) x -> cR (bx t) x
 | 0, h => h
 | t + 1, ⟨s, e, h⟩ => by
  obtain ⟨b, k, e1, _, e3⟩ := HR e
  exact ⟨b, e1, (lZ.mp ⟨s, e3, h⟩).1⟩
theorem HU {bx : Nat -> W2} {st : Nat -> P2} (h0 : qL (bx 0)) {t : Nat} (hp : (st t).1 <= (st t).2) {y : Int} (h : cR (a8 bx st (t + 1)) y) : ∃ x, cR (a8 bx st t) x /\ (st t).1 <= y - x /\ y - x <= (st t).2 := by
 obtain ⟨s, e, h⟩ := h
 obtain ⟨b, k, _, e2, e3⟩ := HR e
 obtain ⟨x, hx, h1, h2⟩ := PZ (ux h0 t k e2) hp (lZ.mp ⟨s, e3, h⟩).2
 exact ⟨x, ⟨k, e2, hx⟩, h1, h2⟩
noncomputable def e8 (n : Nat) (st : Nat -> P2) (t : Nat) : P2 := (-(st (n - 1 - t)).2, -(st (n - 1 - t)).1)
noncomputable def dQ (n : Nat) (bx : Nat -> W2) (st : Nat -> P2) (t : Nat) : W2 := a8 (fun k => a8 bx st (n - k)) (e8 n st) (n - t)
structure uy (n : Nat) (bx : Nat -> W2) (st : Nat -> P2) : Prop where
 ok : ∀ t, t <= n -> ∃ s, dQ n bx st t = some s /\ ba s.1 s.2 = false
 sub : ∀ t x, t <= n -> cR (dQ n bx st t) x -> cR (bx t) x
 next : ∀ t x, t < n -> cR (dQ n bx st t) x -> ∃ y, cR (dQ n bx st (t + 1)) y /\ (st t).1 <= y - x /\ y - x <= (st t).2
theorem P0 {n : Nat} {bx : Nat -> W2} {st : Nat -> P2} (h0 : qL (bx 0)) (hp : ∀ t, t < n -> (st t).1 <= (st t).2) (hf : ∀ t, t <= n -> a8 bx st t ≠ none) : uy n bx st := by
 have zY := ux (st := st) h0
 have P5 : ∀ k, k <= n -> ∃ s, a8 (fun k => a8 bx st (n - k)) (e8 n st) k = some s := by
  intro k
  induction k with
  | zero =>
   intro _
   obtain ⟨s, e⟩ := Option.ne_none_iff_exists'.mp (hf n (Nat.le_refl _))
   exact ⟨s, e⟩
  | succ k ih =>
   intro hk
   obtain ⟨s, e⟩ := ih (by omega)
   obtain ⟨y, hy⟩ := PY (ux (bx := fun k => a8 bx st (n - k)) (zY n) k s e)
   have HV : cR (a8 bx st (n - k)) y := zX (bx := fun k => a8 bx st (n - k)) ⟨s, e, hy⟩
   rw [show n - k = n - (k + 1) + 1 by omega] at HV
   obtain ⟨x, ⟨f, ef, hx⟩, h1, h2⟩ := HU h0 (hp _ (by omega)) HV
   have em : n - 1 - k = n - (k + 1) := by omega
   have hm : bw (cW s (e8 n st k)) x := zV hy (by unfold e8; rw [em]; dsimp only; omega) (by unfold e8; rw [em]; dsimp only; omega)
   obtain ⟨z, ez, _⟩ := lZ.mpr ⟨hx, hm⟩
   refine ⟨z, ?_⟩
   unfold a8
   rw [e]
   show (match a8 bx st (n - (k + 1)), some s with
    | some b, some P6 => eZ b (cW P6 (e8 n st k))
    | _, _ => none) = some z
   rw [ef]
   exact ez
 refine ⟨fun t ht => ?_, fun t x ht h => ?_, fun t x ht h => ?_⟩
 ·obtain ⟨s, e⟩ := P5 (n - t) (by omega)
  exact ⟨s, e, ux (bx := fun k => a8 bx st (n - k)) (zY n) _ s e⟩
 ·have := zX (bx := fun k => a8 bx st (n - k)) h
  rw [show n - (n - t) = t by omega] at this
  exact zX this
 ·unfold dQ at h
  rw [show n - t = n - (t + 1) + 1 by omega] at h
  have hb : (e8 n st (n - (t + 1))).1 <= (e8 n st (n - (t + 1))).2 := by
   unfold e8
   have := hp (n - 1 - (n - (t + 1))) (by omega)
   dsimp only
   omega
  obtain ⟨y, hy, h1, h2⟩ := HU (bx := fun k => a8 bx st (n - k)) (zY n) hb h
  have em : n - 1 - (n - (t + 1)) = t := by omega
  unfold e8 at h1 h2
  rw [em] at h1 h2
  dsimp only at h1 h2
  exact ⟨y, hy, by omega, by omega⟩
noncomputable def iu (ps : List P2) (c : Nat -> Int) : Prop := ∀ k, k < ps.length -> (aD ps k).1 <= c (k + 1) - c k /\ c (k + 1) - c k <= (aD ps k).2
noncomputable abbrev Mk := Nat × S2
noncomputable def meets (ms : List Mk) (c : Nat -> Int) : Prop := ∀ m ∈ ms, bw m.2 (c m.1)
structure qM (ps : List P2) (ms : List Mk) (tp : Nat -> Option P2) : Prop where
 val : ∀ t v k, t <= ps.length -> tp t = some (v, k) -> ∃ (i : Nat) (m : Mk) (h : Int), k = (i : Int) /\ ms[i]? = some m /\ m.2.2 = some h /\ h + cK ps m.1 t <= v
 top : ∀ m ∈ ms, ∀ h, m.2.2 = some h -> ∃ v k, tp m.1 = some (v, k) /\ v <= h
 fwd : ∀ t v k, t < ps.length -> tp t = some (v, k) -> ∃ v' k', tp (t + 1) = some (v', k') /\ v' <= v + (aD ps t).2
 bwd : ∀ t v k, t < ps.length -> tp (t + 1) = some (v, k) -> ∃ v' k', tp t = some (v', k') /\ v' <= v - (aD ps t).1
noncomputable def uz (ms : List Mk) (tp : Nat -> Option P2) : Prop := ∀ m ∈ ms, ∀ l v k, m.2.1 = some l -> tp m.1 = some (v, k) -> l <= v
theorem P7 {ps : List P2} {ms : List Mk} {tp : Nat -> Option P2} (hp : eo ps) (hm : ∀ m ∈ ms, m.1 <= ps.length) (T : qM ps ms tp) (hn : uz ms tp) : ∃ c, iu ps c /\ meets ms c := by
 by_cases h0 : tp 0 = none
 ·have P8 : ∀ t, t <= ps.length -> tp t = none := by
   intro t
   induction t with
   | zero => intro _; exact h0
   | succ t ih =>
    intro ht
    cases e : tp (t + 1) with
    | none => rfl
    | some q =>
     obtain ⟨v, k⟩ := q
     obtain ⟨v', k', e', _⟩ := T.bwd t v k (by omega) e
     rw [ih (by omega)] at e'
     cases e'
  have P9 : ∀ m ∈ ms, m.2.2 = none := fun m bK => by
   cases e : m.2.2 with
   | none => rfl
   | some h =>
    obtain ⟨v, k, e', _⟩ := T.top m bK h e
    rw [P8 m.1 (hm m bK)] at e'
    cases e'
  have big : ∀ (l : List Mk), ∃ M : Int, ∀ m ∈ l, ∀ a, m.2.1 = some a -> a <= M + pre (·.1) ps m.1 := by
   intro l
   induction l with
   | nil => exact ⟨0, fun _ z => nomatch z⟩
   | cons m l ih =>
    obtain ⟨M, hM⟩ := ih
    cases e : m.2.1 with
    | none =>
     refine ⟨M, fun q hq a ha => ?_⟩
     rcases List.mem_cons.mp hq with rfl | hq
     ·rw [e] at ha; cases ha
     ·exact hM q hq a ha
    | some b =>
     refine ⟨if M <= b - pre (·.1) ps m.1 then b - pre (·.1) ps m.1 else M, fun q hq a ha => ?_⟩
     rcases List.mem_cons.mp hq with rfl | hq
     ·rw [e] at ha
      cases ha
      split <;> omega
     ·have := hM q hq a ha
      split <;> omega
  obtain ⟨M, hM⟩ := big ms
  refine ⟨fun t => M + pre (·.1) ps t, fun k hk => ?_, fun m bK => ⟨fun a ha => hM m bK a ha, fun b hb => ?_⟩⟩
  ·have := hp _ (uk hk)
   dsimp only
   rw [kq _ ps hk]
   omega
  ·rw [P9 m bK] at hb
   cases hb
 ·have HW : ∀ t, t <= ps.length -> ∃ v k, tp t = some (v, k) := by
   intro t
   induction t with
   | zero =>
    intro _
    obtain ⟨⟨v, k⟩, e⟩ := Option.ne_none_iff_exists'.mp h0
    exact ⟨v, k, e⟩
   | succ t ih =>
    intro ht
    obtain ⟨v, k, e⟩ := ih (by omega)
    obtain ⟨v', k', e', _⟩ := T.fwd t v k (by omega) e
    exact ⟨v', k', e'⟩
  refine ⟨fun t => ((tp t).map (·.1)).getD 0, fun k hk => ?_, fun m bK => ⟨fun a ha => ?_, fun b hb => ?_⟩⟩
  ·obtain ⟨v, q, e⟩ := HW k (by omega)
   obtain ⟨v', q', e', h1⟩ := T.fwd k v q hk e
   obtain ⟨v2, q2, e2, h2⟩ := T.bwd k v' q' hk e'
   rw [e] at e2
   cases e2
   dsimp only
   rw [e, e']
   simp only [Option.map_some, Option.getD_some]
   omega
  ·obtain ⟨v, q, e⟩ := HW m.1 (hm m bK)
   have := hn m bK a v q ha e
   dsimp only
   rw [e]
   exact this
  ·obtain ⟨v, q, e, h1⟩ := T.top m bK b hb
   dsimp only
   rw [e]
   exact h1
noncomputable def clash (ps : List P2) (a b : Mk) : Prop := ∃ h l, a.2.2 = some h /\ b.2.1 = some l /\ h + cK ps a.1 b.1 < l
noncomputable def dj (a b : P2) : Bool := decide (a.1 < b.1) || (decide (a.1 = b.1) && decide (a.2 < b.2))
noncomputable def dk (a b : P2) : P2 := if dj b a = true then b else a
noncomputable def fW : Option P2 -> Option P2 -> Option P2
 | none, b => b
 | some a, none => some a
 | some a, some b => some (dk a b)
theorem zZ (a b : P2) : (dk a b = a ∨ dk a b = b) /\ (dk a b).1 <= a.1 /\ (dk a b).1 <= b.1 := by
 unfold dk dj
 split
 ·rename_i h
  simp only [Bool.or_eq_true, Bool.and_eq_true, decide_eq_true_eq] at h
  exact ⟨.inr rfl, by omega, by omega⟩
 ·rename_i h
  simp only [Bool.or_eq_true, Bool.and_eq_true, decide_eq_true_eq, not_or, not_and] at h
  exact ⟨.inl rfl, by omega, by omega⟩
theorem HX (a b : Option P2) : fW a b = a ∨ fW a b = b := by
 rcases a with _ | a <;> rcases b with _ | b
 ·exact .inl rfl
 ·exact .inr rfl
 ·exact .inl rfl
 ·show some (dk a b) = some a ∨ some (dk a b) = some b
  rcases (zZ a b).1 with h | h <;> rw [h]
  ·exact .inl rfl
  ·exact .inr rfl
noncomputable def cX (a : Option P2) (v : Int) : Prop := ∃ w k, a = some (w, k) /\ w <= v
theorem Qa {a b : Option P2} {v : Int} (h : cX a v) : cX (fW a b) v := by
 obtain ⟨w, k, rfl, hw⟩ := h
 rcases b with _ | b
 ·exact ⟨w, k, rfl, hw⟩
 ·have := (zZ (w, k) b).2.1
  exact ⟨(dk (w, k) b).1, (dk (w, k) b).2, rfl, by dsimp only at this; omega⟩
theorem z0 {a b : Option P2} {v : Int} (h : cX b v) : cX (fW a b) v := by
 obtain ⟨w, k, rfl, hw⟩ := h
 rcases a with _ | a
 ·exact ⟨w, k, rfl, hw⟩
 ·have := (zZ a (w, k)).2.2
  exact ⟨(dk a (w, k)).1, (dk a (w, k)).2, rfl, by dsimp only at this; omega⟩
noncomputable def l4 (a : Option P2) (Qb : Int) : Option P2 := a.map fun q => (q.1 + Qb, q.2)
theorem HY {a : Option P2} {v b : Int} (h : cX a v) : cX (l4 a b) (v + b) := by
 obtain ⟨w, k, rfl, hw⟩ := h
 exact ⟨w + b, k, rfl, by omega⟩
noncomputable def dR (ps : List P2) (ms : List Mk) (t : Nat) (a : Option P2) : Prop := ∀ v k, a = some (v, k) -> ∃ (i : Nat) (m : Mk) (h : Int), k = (i : Int) /\ ms[i]? = some m /\ m.2.2 = some h /\ h + cK ps m.1 t <= v
theorem dR.z5 {ps : List P2} {ms : List Mk} {t : Nat} {a b : Option P2} (ha : dR ps ms t a) (hb : dR ps ms t b) : dR ps ms t (fW a b) := by
 rcases HX a b with h | h <;> rw [h]
 ·exact ha
 ·exact hb
theorem Qc (ps : List P2) (t : Nat) : cK ps t t = 0 := by unfold cK; rw [if_pos (Nat.le_refl _)]; omega
theorem Qd {ps : List P2} {t : Nat} (h : t < ps.length) : cK ps t (t + 1) = (aD ps t).2 := by
 unfold cK
 rw [if_pos (Nat.le_succ _), kq _ ps h]
 omega
theorem Qe {ps : List P2} {t : Nat} (h : t < ps.length) : cK ps (t + 1) t = -(aD ps t).1 := by
 unfold cK
 rw [if_neg (by omega), kq _ ps h]
 omega
theorem dR.lift {ps : List P2} {ms : List Mk} (hp : eo ps) (hm : ∀ m ∈ ms, m.1 <= ps.length) {t u : Nat} (ht : t <= ps.length) (hu : u <= ps.length) {a : Option P2} {b : Int} (hb : cK ps t u = b) (h : dR ps ms t a) : dR ps ms u (l4 a b) := by
 intro v k e
 obtain ⟨⟨w, q⟩, ea, e⟩ := Option.map_eq_some_iff.mp e
 cases e
 obtain ⟨i, m, x, e1, e2, e3, hx⟩ := h w q ea
 refine ⟨i, m, x, e1, e2, e3, ?_⟩
 have := Pz hp (hm m (List.mem_of_getElem? e2)) hu ht
 dsimp only
 omega
noncomputable def fX (tp : Nat -> Option P2) (i : Nat) (x : Option P2) : Nat -> Option P2 := fun t => if t = i then x else tp t
theorem kx {tp : Nat -> Option P2} {i : Nat} {x : Option P2} : fX tp i x i = x := if_pos rfl
theorem gH {tp : Nat -> Option P2} {i t : Nat} {x : Option P2} (h : t ≠ i) : fX tp i x t = tp t := if_neg h
theorem HZ {ps : List P2} {ms : List Mk} {tp : Nat -> Option P2} {i : Nat} {x : Option P2} (h : ∀ t, t <= ps.length -> dR ps ms t (tp t)) (hx : dR ps ms i x) : ∀ t, t <= ps.length -> dR ps ms t (fX tp i x t) := fun t ht => by
 by_cases e : t = i
 ·subst e; rw [kx]; exact hx
 ·rw [gH e]; exact h t ht
theorem uA {tp : Nat -> Option P2} {i t : Nat} {b : Option P2} {v : Int} (h : cX (tp t) v) : cX (fX tp i (fW (tp i) b) t) v := by
 by_cases e : t = i
 ·subst e; rw [kx]; exact Qa h
 ·rw [gH e]; exact h
structure T1 (ps : List P2) (ms : List Mk) (j : Nat) (tp : Nat -> Option P2) : Prop where
 val : ∀ t, t <= ps.length -> dR ps ms t (tp t)
 top : ∀ m ∈ ms.take j, ∀ h, m.2.2 = some h -> cX (tp m.1) h
theorem T1.nil {ps : List P2} {ms : List Mk} : T1 ps ms 0 fun _ => none := ⟨fun _ _ _ _ e => (nomatch e), fun _ h => by simp at h⟩
theorem T1.skip {ps : List P2} {ms : List Mk} {j : Nat} {tp : Nat -> Option P2} {m : Mk} (T : T1 ps ms j tp) (hm : ms[j]? = some m) (hn : m.2.2 = none) : T1 ps ms (j + 1) tp := ⟨T.val, fun q hq h e => by
 rw [List.take_succ, hm] at hq
 rcases List.mem_append.mp hq with z | z
 ·exact T.top q z h e
 ·obtain rfl : q = m := by simpa using z
  rw [hn] at e; cases e⟩
theorem T1.put {ps : List P2} {ms : List Mk} {j : Nat} {tp : Nat -> Option P2} {m : Mk} {h : Int} (T : T1 ps ms j tp) (hm : ms[j]? = some m) (hh : m.2.2 = some h) : T1 ps ms (j + 1) (fX tp m.1 (fW (tp m.1) (some (h, (j : Int))))) := by
 have hv : dR ps ms m.1 (some (h, (j : Int))) := fun v k e => by
  cases e
  exact ⟨j, m, h, rfl, hm, hh, by rw [Qc]; omega⟩
 refine ⟨fun t ht => ?_, fun q hq x e => ?_⟩
 ·by_cases e : t = m.1
  ·subst e; rw [kx]; exact (T.val _ ht).z5 hv
  ·rw [gH e]; exact T.val t ht
 ·rw [List.take_succ, hm] at hq
  rcases List.mem_append.mp hq with z | z
  ·exact uA (T.top q z x e)
  ·obtain rfl : q = m := by simpa using z
   rw [hh] at e
   cases e
   rw [kx]
   exact z0 ⟨h, j, rfl, Int.le_refl _⟩
structure T2 (ps : List P2) (ms : List Mk) (j : Nat) (tp : Nat -> Option P2) : Prop where
 val : ∀ t, t <= ps.length -> dR ps ms t (tp t)
 top : ∀ m ∈ ms, ∀ h, m.2.2 = some h -> cX (tp m.1) h
 fwd : ∀ t, t < j -> ∀ v, cX (tp t) v -> cX (tp (t + 1)) (v + (aD ps t).2)
theorem T1.two {ps : List P2} {ms : List Mk} {tp : Nat -> Option P2} (T : T1 ps ms ms.length tp) : T2 ps ms 0 tp := ⟨T.val, fun m h => T.top m (by rw [List.take_length]; exact h), fun _ h => absurd h (Nat.not_lt_zero _)⟩
theorem T2.step {ps : List P2} {ms : List Mk} {j : Nat} {tp : Nat -> Option P2} (hp : eo ps) (hm : ∀ m ∈ ms, m.1 <= ps.length) (hj : j < ps.length) (T : T2 ps ms j tp) : T2 ps ms (j + 1) (fX tp (j + 1) (fW (tp (j + 1)) (l4 (tp j) (aD ps j).2))) := by
 refine ⟨HZ T.val ((T.val _ (by omega)).z5 ((T.val j (by omega)).lift hp hm (by omega) (by omega) (Qd hj))), fun m h x e => uA (T.top m h x e), fun t ht v hv => ?_⟩
 rw [gH (by omega)] at hv
 by_cases e : t = j
 ·subst e
  rw [kx]
  exact z0 (HY hv)
 ·rw [gH (by omega)]
  exact T.fwd t (by omega) v hv
structure T3 (ps : List P2) (ms : List Mk) (j : Nat) (tp : Nat -> Option P2) : Prop where
 val : ∀ t, t <= ps.length -> dR ps ms t (tp t)
 top : ∀ m ∈ ms, ∀ h, m.2.2 = some h -> cX (tp m.1) h
 fwd : ∀ t, t < ps.length -> ∀ v, cX (tp t) v -> cX (tp (t + 1)) (v + (aD ps t).2)
 bwd : ∀ t, j <= t -> t < ps.length -> ∀ v, cX (tp (t + 1)) v -> cX (tp t) (v - (aD ps t).1)
theorem T2.three {ps : List P2} {ms : List Mk} {tp : Nat -> Option P2} (T : T2 ps ms ps.length tp) : T3 ps ms ps.length tp := ⟨T.val, T.top, T.fwd, fun t h1 h2 => absurd h2 (by omega)⟩
theorem T3.step {ps : List P2} {ms : List Mk} {j : Nat} {tp : Nat -> Option P2} (hp : eo ps) (hm : ∀ m ∈ ms, m.1 <= ps.length) (hj : j < ps.length) (T : T3 ps ms (j + 1) tp) : T3 ps ms j (fX tp j (fW (tp j) (l4 (tp (j + 1)) (-(aD ps j).1)))) := by
 have h1 := hp _ (uk hj)
 refine ⟨HZ T.val ((T.val _ (by omega)).z5 ((T.val (j + 1) (by omega)).lift hp hm (by omega) (by omega) (Qe hj))), fun m h x e => uA (T.top m h x e), fun t ht v hv => ?_, fun t h2 h3 v hv => ?_⟩
 ·by_cases e : t = j
  ·subst e
   rw [kx] at hv
   rw [gH (by omega)]
   rcases HX (tp t) (l4 (tp (t + 1)) (-(aD ps t).1)) with z | z
   ·rw [z] at hv; exact T.fwd t ht v hv
   ·rw [z] at hv
    obtain ⟨w, k, e, hw⟩ := hv
    obtain ⟨⟨w', k'⟩, e1, e2⟩ := Option.map_eq_some_iff.mp e
    cases e2
    exact ⟨w', k', e1, by dsimp only at hw; omega⟩
  ·rw [gH e] at hv
   exact uA (T.fwd t ht v hv)
 ·rw [gH (by omega)] at hv
  by_cases e : t = j
  ·subst e
   rw [kx]
   refine z0 ?_
   have := HY (b := -(aD ps t).1) hv
   rwa [show v + -(aD ps t).1 = v - (aD ps t).1 by omega] at this
  ·rw [gH e]
   exact T.bwd t (by omega) h3 v hv
theorem T3.tops {ps : List P2} {ms : List Mk} {tp : Nat -> Option P2} (T : T3 ps ms 0 tp) : qM ps ms tp :=
 ⟨fun t v k ht e => T.val t ht v k e, T.top, fun t v k ht e => T.fwd t ht v ⟨v, k, e, Int.le_refl _⟩, fun t v k ht e => T.bwd t (Nat.zero_le _) ht v ⟨v, k, e, Int.le_refl _⟩⟩
theorem qM.clash {ps : List P2} {ms : List Mk} {tp : Nat -> Option P2} (T : qM ps ms tp) {b : Mk} {v k l : Int} (hb : b.1 <= ps.length) (e : tp b.1 = some (v, k)) (hl : b.2.1 = some l) (hv : v < l) : ∃ (i : Nat) (a : Mk), k = (i : Int) /\ ms[i]? = some a /\ clash ps a b := by
 obtain ⟨i, m, h, e1, e2, e3, h4⟩ := T.val _ v k hb e
 exact ⟨i, m, e1, e2, h, l, e3, hl, by omega⟩
theorem z6 {bx Ia : Nat -> W2} {st bH : Nat -> P2} : ∀ t, (∀ k, k <= t -> bx k = Ia k) -> (∀ k, k < t -> st k = bH k) -> a8 bx st t = a8 Ia bH t
 | 0, h, _ => h 0 (Nat.le_refl _)
 | t + 1, h, hs => by
  unfold a8
  rw [h (t + 1) (Nat.le_refl _), z6 t (fun k hk => h k (by omega)) (fun k hk => hs k (by omega)), hs t (by omega)]
noncomputable def cY (ws : List W2) (t : Nat) : W2 := ws.getD t none
noncomputable def bB (ss : List S2) (t : Nat) : S2 := ss.getD t (none, none)
noncomputable def atT (ms : List Mk) (t : Nat) : List S2 := (ms.filter fun m => decide (m.1 = t)).map (·.2)
noncomputable def bL (ms : List Mk) (t : Nat) : W2 := cF (none, none) (atT ms t)
theorem Ib {ms : List Mk} {t : Nat} {x : Int} : cR (bL ms t) x ↔ ∀ m ∈ ms, m.1 = t -> bw m.2 x := by
 unfold bL
 rw [zU]
 unfold atT
 constructor
 ·intro h m hm e
  exact h _ (List.mem_map.mpr ⟨m, List.mem_filter.mpr ⟨hm, by simpa using e⟩, rfl⟩)
 ·intro h s hs
  obtain ⟨m, hm, rfl⟩ := List.mem_map.mp hs
  obtain ⟨h1, h2⟩ := List.mem_filter.mp hm
  exact h m h1 (by simpa using h2)
theorem Qf (ms : List Mk) (t : Nat) : qL (bL ms t) := fun s e => by
 unfold bL cF at e
 split at e
 ·cases e
 ·rename_i h
  cases e
  simpa using h
theorem Qg {ps : List P2} {ms : List Mk} {c : Nat -> Int} (hc : iu ps c) (hm : meets ms c) : ∀ t, t <= ps.length -> a8 (bL ms) (aD ps) t ≠ none := fun t ht e => by
 obtain ⟨s, es, _⟩ := HS (bx := bL ms) (st := aD ps) (c := c) (n := ps.length) (fun t _ => Ib.mpr fun m bK e => by rw [<- e]; exact hm m bK) (fun t ht => hc t ht) t ht
 rw [e] at es
 cases es
theorem Ic {ps : List P2} {ms : List Mk} (hp : eo ps) (hf : ∀ t, t <= ps.length -> a8 (bL ms) (aD ps) t ≠ none) : uy ps.length (bL ms) (aD ps) := P0 (Qf ms 0) (fun t ht => hp _ (uk ht)) hf
noncomputable def gI (ps : List P2) : List P2 := ps.reverse.map fun p => (-p.2, -p.1)
theorem Qh {ps : List P2} {t : Nat} (h : t < ps.length) : aD (gI ps) t = e8 ps.length (aD ps) t := by
 unfold gI e8 aD
 rw [List.getD_eq_getElem?_getD, List.getElem?_map, List.getElem?_reverse h, List.getD_eq_getElem?_getD, List.getElem?_eq_getElem (by omega)]
 rfl
theorem back_eq {ps : List P2} {ms : List Mk} {ss : List S2} (hl : ss.length = ps.length + 1) (h : ∀ t, t < ps.length + 1 -> a8 (bL ms) (aD ps) t = some (bB ss t)) {t : Nat} (ht : t <= ps.length) : a8 (cY (ss.reverse.map some)) (aD (gI ps)) t = dQ ps.length (bL ms) (aD ps) (ps.length - t) := by
 unfold dQ
 rw [show ps.length - (ps.length - t) = t by omega]
 refine z6 t (fun k hk => ?_) fun k hk => Qh (by omega)
 rw [h (ps.length - k) (by omega)]
 unfold cY bB
 rw [List.getD_eq_getElem?_getD, List.getElem?_map, List.getElem?_reverse (by omega), hl, show ps.length + 1 - 1 - k = ps.length - k by omega, List.getD_eq_getElem?_getD, List.getElem?_eq_getElem (by omega)]
 rfl
theorem Qi {ss : List S2} {n t : Nat} (hl : ss.length = n + 1) (ht : t <= n) : bB ss.reverse t = bB ss (n - t) := by
 unfold bB
 rw [List.getD_eq_getElem?_getD, List.getElem?_reverse (by omega), List.getD_eq_getElem?_getD, hl, show n + 1 - 1 - t = n - t by omega]
theorem Qj {ps : List P2} {ms : List Mk} (T : uy ps.length (bL ms) (aD ps)) {t : Nat} (ht : t < ps.length) {x : Int} {s : S2} (hx : cR (dQ ps.length (bL ms) (aD ps) t) x) (hs : dQ ps.length (bL ms) (aD ps) (t + 1) = some s) : ∃ r, eZ s (cW (some x, some x) (aD ps t)) = some r /\ ∀ y, bw r y -> cR (dQ ps.length (bL ms) (aD ps) (t + 1)) y /\ (aD ps t).1 <= y - x /\ y - x <= (aD ps t).2 := by
 obtain ⟨y, ⟨s', e', hy⟩, h1, h2⟩ := T.next t x ht hx
 rw [hs] at e'
 cases e'
 have xx : bw (some x, some x) x := ⟨fun _ z => by cases z; exact Int.le_refl _, fun _ z => by cases z; exact Int.le_refl _⟩
 obtain ⟨r, er, _⟩ := lZ.mpr ⟨hy, zV xx h1 h2⟩
 refine ⟨r, er, fun z hz => ?_⟩
 obtain ⟨z1, z2⟩ := lZ.mp ⟨r, er, hz⟩
 refine ⟨⟨s, hs, z1⟩, ?_⟩
 have a := z2.1 (x + (aD ps t).1) rfl
 have b := z2.2 (x + (aD ps t).2) rfl
 omega
noncomputable def aZ (cs : List Int) (t : Nat) : Int := cs.getD t 0
theorem meets_of {ps : List P2} {ms : List Mk} (T : uy ps.length (bL ms) (aD ps)) (hm : ∀ m ∈ ms, m.1 <= ps.length) {c : Nat -> Int} (h : ∀ t, t <= ps.length -> cR (dQ ps.length (bL ms) (aD ps) t) (c t)) : meets ms c := fun m bK => Ib.mp (T.sub _ _ (hm m bK) (h _ (hm m bK))) m bK rfl
noncomputable def cy (ts : List (Option P2)) (t : Nat) : Option P2 := ts.getD t none
theorem Qk {ts : List (Option P2)} {i : Nat} {x : Option P2} (h : i < ts.length) : cy (ts.set i x) = fX (cy ts) i x := by
 funext t
 unfold cy fX
 rw [List.getD_eq_getElem?_getD, List.getElem?_set]
 by_cases e : t = i
 ·subst e; rw [if_pos rfl, if_pos rfl, if_pos h]; rfl
 ·rw [if_neg (fun z => e z.symm), if_neg e]
  exact (List.getD_eq_getElem?_getD ..).symm
theorem Ql (n : Nat) : cy (List.replicate n none) = fun _ => none := by
 funext t
 unfold cy
 rw [List.getD_eq_getElem?_getD, List.getElem?_replicate]
 split <;> rfl
end Gz
namespace Gz
open PySem PySem.Spec PyProof.Rows L2
noncomputable def fB (h : Heap) (a : Addr) (p : P2) : Prop := ∃ o t u n, h.get? a = some o /\ o.cls = .type "tuple" /\ o.data = .seq #[.int p.1 t, .int p.2 u] n
theorem fB.keep {h h' : Heap} {a : Addr} {p : P2} (x : fB h a p) (k : ∀ o, h.get? a = some o -> h'.get? a = some o) : fB h' a p := let ⟨o, t, u, n, e, r⟩ := x; ⟨o, t, u, n, k o e, r⟩
section
variable {prog : Program} {w : World} {A : Around} {E : Value -> Shared -> Prop} {s : Shared}
theorem Ie {x y : Int} {t u : Tok} {Q : Value -> Shared -> Prop} (h : Q (.bool (decide (x < y))) s) : wpAny (model prog w) A (richCompare .Lt (.int x t) (.int y u)) Q E s :=
 richCompare_gives (op := .Lt) (typeIs_int s _ t) (typeIs_int s _ u) PySem.F.slot_int_lt PySem.F.entry_int_lt (PySem.F.args_int_lt_2 _ _) (gives_int_lt _ _ t u) (fun x => nomatch x) h
theorem uB {Q : Value -> Shared -> Prop} {a b : Addr} {p q : P2} (ha : fB s.heap a p) (hb : fB s.heap b q) (hu : A.units < cLine) (h : Q (.bool (dj p q)) s) : wpAny (model prog w) A (richCompare .Lt (.ref a) (.ref b)) Q E s := by
 obtain ⟨oa, t1, u1, n1, hoa, hca, hda⟩ := ha
 obtain ⟨ob, t2, u2, n2, hob, hcb, gx⟩ := hb
 have Ta : s.TypeIs (.ref a) "tuple" := ⟨oa, hoa, hca⟩
 have Tb : s.TypeIs (.ref b) "tuple" := ⟨ob, hob, hcb⟩
 refine wpAny_richCompare_same_room Ta Tb PySem.F.slot_tuple_lt (wpAny_call_entry PySem.F.slot_tuple_lt Ta PySem.F.entry_tuple_lt ?_ (PySem.F.args_tuple_lt_2 _ _)) hu
 show wpAny _ _ (isInstance (.ref b) (.type "tuple") >>= _) _ _ s
 refine wpAny_bind (wpAny_isInstance Tb isSubtype_tuple_tuple ?_)
 simp only [Bool.not_true, Bool.false_eq_true, if_false]
 refine wpAny_bind (wpAny_tupleItemsOf hoa hda ?_)
 refine wpAny_bind (wpAny_tupleItemsOf hob gx ?_)
 refine wpAny_bind ?_
 refine wpAny_forIn_list _ (fun rest r s' => r.1 = none /\ s' = s /\ (rest = [(.int p.1 t1, .int q.1 t2), (.int p.2 u1, .int q.2 u2)] ∨ (rest = [(.int p.2 u1, .int q.2 u2)] /\ p.1 = q.1) ∨ (rest = [] /\ p.1 = q.1 /\ p.2 = q.2))) _ ?_ ?_ _ _ ⟨rfl, rfl, .inl rfl⟩
 ·rintro ⟨u, v⟩ rest r s' ⟨hr, rfl, hz⟩
  rcases hz with hz | ⟨hz, e1⟩ | ⟨hz, _⟩
  ·cases hz
   refine wpAny_bind (wpAny_eqBool_int ?_)
   by_cases e : p.1 = q.1
   ·rw [show (p.1 == q.1) = true by simpa using e]
    simp only [Bool.not_true, Bool.false_eq_true, if_false]
    exact wpAny_pure ⟨rfl, rfl, .inr (.inl ⟨trivial, e⟩)⟩
   ·rw [show (p.1 == q.1) = false by simpa using e]
    simp only [Bool.not_false, if_true]
    refine wpAny_bind (wpAny_rule (wpAny_bind (Ie (wpAny_bind (wpAny_pure (wpAny_pure (wpAny_pure ⟨_, rfl, fun z => (nomatch z), ?_⟩)))))))
    have e2 : dj p q = decide (p.1 < q.1) := by unfold dj; rw [decide_eq_false e]; simp
    rw [<- e2]
    exact h
  ·cases hz
   refine wpAny_bind (wpAny_eqBool_int ?_)
   by_cases e : p.2 = q.2
   ·rw [show (p.2 == q.2) = true by simpa using e]
    simp only [Bool.not_true, Bool.false_eq_true, if_false]
    exact wpAny_pure ⟨rfl, rfl, .inr (.inr ⟨trivial, e1, e⟩)⟩
   ·rw [show (p.2 == q.2) = false by simpa using e]
    simp only [Bool.not_false, if_true]
    refine wpAny_bind (wpAny_rule (wpAny_bind (Ie (wpAny_bind (wpAny_pure (wpAny_pure (wpAny_pure ⟨_, rfl, fun z => (nomatch z), ?_⟩)))))))
    have e2 : dj p q = decide (p.2 < q.2) := by unfold dj; rw [e1]; simp
    rw [<- e2]
    exact h
  ·cases hz
 ·rintro ⟨r1, r2⟩ s' ⟨hr, rfl, hz⟩
  simp only at hr
  subst hr
  rcases hz with hz | ⟨hz, _⟩ | ⟨_, e1, e2⟩
  ·cases hz
  ·cases hz
  ·refine wpAny_pure ⟨_, rfl, fun z => (nomatch z), ?_⟩
   have e3 : dj p q = false := by unfold dj; rw [e1, e2]; simp
   rw [e3] at h
   exact h
theorem Qm {R : Result -> Shared -> Prop} {I S : Addr} {fp wr : List Addr} {n : Nat} {P : Nat -> Value -> Prop} {St : Nat -> Heap -> Prop} {G : Heap -> Prop} {bt : Nat -> Nat -> Bool} {kw : List (Str × Value)}
 (W : Walks prog w A.in1 I fp wr n P St) (hG : ∀ h h', G h -> (∀ b o, b ∉ wr -> b ≠ S -> h.get? b = some o -> h'.get? b = some o) -> G h')
 (j8 : ∀ i j vi vj (s : Shared) (Q : Value -> Shared -> Prop) (E : Value -> Shared -> Prop), P i vi -> P j vj -> G s.heap -> Q (.bool (bt i j)) s -> wpAny (model prog w) A.in1 (richCompare .Lt vi vj) Q E s) (hS : S ∉ fp) : ∀ (k j : Nat) (s : Shared) (vb : Value) (c : Nat), k + (j + 1) = n -> St (j + 1) s.heap -> G s.heap -> P (argBest bt j) vb ->
  s.heap.get? S = some { cls := .type "list", dict := none, data := .seq #[vb, vb] c, slots := #[] } ->
  (∀ v h' tk, P (argBest bt (n - 1)) v -> (∀ b o, b ∉ wr -> b ≠ S -> s.heap.get? b = some o -> h'.get? b = some o) -> R (.ok (.ret v)) { s with heap := h', toks := tk }) ->
  codeAny (model prog w) A (.builtin "min.loop" ⟨[.ref I, .none, .ref S], kw⟩) R s := by
 have nS : S ∉ wr := fun z => hS (W.sub _ z)
 have nm : (toString "min" ++ toString ".loop" : String) = "min.loop" := by decide
 intro k
 induction k with
 | zero =>
  intro j s vb c e st g pb oS fin
  have e' : j + 1 = n := by omega
  refine codeAny_builtin PySem.F.entry_min_loop ?_
  rw [Around.under_plainId PySem.F.plain_min_loop _]
  show wpAny _ A.in1 (seqItems? (.ref S) >>= _) _ _ s
  refine wpAny_bind (wpAny_seqItems oS rfl ?_)
  show wpAny _ A.in1 (tryCatch (pyNext (.ref I)) _ >>= _) _ _ s
  refine wpAny_bind (wpAny_tryCatch (W.done s _ _ (e' ▸ st) fun h1 tk kp => ?_))
  have bS := kp S _ nS oS
  show wpAny _ A.in1 (updateSeq S (fun _ => #[]) >>= _) _ _ _
  refine wpAny_bind ?_
  refine wpAny_updateSeq bS rfl (wpAny_bind (wpAny_letGo (wpAny_pure ?_)))
  exact fin vb _ tk (by rw [<- e']; exact pb) fun b o hw hb q => (Heap.get?_update_other _ _ (Ne.symm hb)).trans (kp b o hw q)
 | succ k ih =>
  intro j s vb c e st g pb oS fin
  have lt : j + 1 < n := by omega
  refine codeAny_builtin PySem.F.entry_min_loop ?_
  rw [Around.under_plainId PySem.F.plain_min_loop _]
  show wpAny _ A.in1 (seqItems? (.ref S) >>= _) _ _ s
  refine wpAny_bind (wpAny_seqItems oS rfl ?_)
  show wpAny _ A.in1 (tryCatch (pyNext (.ref I)) _ >>= _) _ _ s
  refine wpAny_bind (wpAny_tryCatch (W.item (j + 1) s _ _ lt st fun v h1 tk pv dM kp => ?_))
  have bS := kp S _ nS oS
  have g1 : G h1 := hG _ _ g fun b o hw _ q => kp b o hw q
  show wpAny _ A.in1 (tryCatch (holding [v, v] (richCompare .Lt v vb >>= _)) _ >>= _) _ _ _
  refine wpAny_bind (wpAny_tryCatch (wpAny_holding (wpAny_bind (j8 (j + 1) (argBest bt j) v vb _ _ _ pv pb g1 ?_))))
  refine wpAny_bind (wpAny_holding (wpAny_truthy_bool ?_))
  refine wpAny_bind (wpAny_letGo (wpAny_pure ?_))
  cases hb : bt (j + 1) (argBest bt j) with
  | true =>
   simp only [if_true]
   refine wpAny_bind ?_
   refine wpAny_updateSeq bS rfl (wpAny_bind (wpAny_letGo ?_))
   rw [nm]
   refine wpAny_pure ⟨plainId_quiet PySem.F.plain_min_loop _, ih (j + 1) _ v _ (by omega) (W.frame _ _ _ dM fun b hf o q => ?_) (hG _ _ g1 fun b o _ cO q => (Heap.get?_update_other _ _ (Ne.symm cO)).trans q) (by simp only [argBest, hb, if_true]; exact pv) (Heap.get?_update_self _ bS rfl) fun v2 h2 ft p2 k2 => ?_⟩
   ·exact (Heap.get?_update_other _ _ (fun z : S = b => hS (by rw [z]; exact hf))).trans q
   ·exact fin v2 h2 ft p2 fun b o hw cO q => k2 b o hw cO ((Heap.get?_update_other _ _ (Ne.symm cO)).trans (kp b o hw q))
  | false =>
   simp only [Bool.false_eq_true, if_false]
   refine wpAny_bind (wpAny_letGo ?_)
   rw [nm]
   refine wpAny_pure ⟨plainId_quiet PySem.F.plain_min_loop _, ih (j + 1) _ vb c (by omega) dM g1 (by simp only [argBest, hb, Bool.false_eq_true, if_false]; exact pb) bS fun v2 h2 ft p2 k2 => ?_⟩
   exact fin v2 h2 ft p2 fun b o hw cO q => k2 b o hw cO (kp b o hw q)
theorem Qn {Q : Value -> Shared -> Prop} {a b : Addr} {p q : P2} (hh : A.handled = none) (ha : fB s.heap a p) (hb : fB s.heap b q) (hu : A.in1.units < cLine)
 (h : ∀ h' tk, (∀ c o, s.heap.get? c = some o -> h'.get? c = some o) -> Q (.ref (if dj q p = true then b else a)) { s with heap := h', toks := tk }) : wpAny (model prog w) A (call (.builtin "min") [.ref a, .ref b]) Q E s := by
 have nm : (toString "min" ++ toString ".loop" : String) = "min.loop" := by decide
 refine call_function_tree PySem.F.kind_min PySem.F.plain_min PySem.F.entry_min (PySem.F.args_min2 _ _) ?_
 show wpAny _ A.in1 (Builtin.Builtins.bindParams "min" ["key", "default"] 0 ⟨[], []⟩ >>= _) _ _ s
 refine wpAny_bind (wpAny_of_eq (show Builtin.Builtins.bindParams "min" ["key", "default"] 0 ⟨[], []⟩ = pure [none, none] from rfl) ?_)
 show wpAny _ A.in1 (newTuple [.ref a, .ref b] >>= _) _ _ s
 refine wpAny_bind (wpAny_newObj_type ?_)
 have hT : (s.heap.push { cls := .type "tuple", data := .seq #[.ref a, .ref b] }).IsTuple s.heap.objs.size #[.ref a, .ref b] := ⟨_, Heap.get?_push_size _ rfl, rfl, 0, rfl⟩
 refine wpAny_bind (wpAny_pyIter_tuple hT ?_)
 show wpAny _ A.in1 (newList [] >>= _) _ _ _
 refine wpAny_bind (wpAny_newObj_type ?_)
 generalize e1 : s.heap.push { cls := .type "tuple", data := .seq #[.ref a, .ref b] } = h1 at hT
 have z1 : h1.objs.size = s.heap.objs.size + 1 := by rw [<- e1]; exact Heap.size_push ..
 have k1 : ∀ c o, s.heap.get? c = some o -> h1.get? c = some o := fun c o e => by rw [<- e1]; exact Heap.get?_push_of_some _ e
 dsimp only
 generalize e2 : h1.push { cls := .type "tuple_iterator", data := .fields #[.ref s.heap.objs.size, .int 0 0] } = h2
 have z2 : h2.objs.size = h1.objs.size + 1 := by rw [<- e2]; exact Heap.size_push ..
 have k2 : ∀ c o, h1.get? c = some o -> h2.get? c = some o := fun c o e => by rw [<- e2]; exact Heap.get?_push_of_some _ e
 have W := Walks.tuple (prog := prog) (w := w) (A := A.in1) hh h1.objs.size s.heap.objs.size (by rw [z1]; exact Nat.ne_of_lt (Nat.lt_succ_self _)) #[.ref a, .ref b]
 have qo : h2.IsTupleIter h1.objs.size s.heap.objs.size 0 /\ h2.IsTuple s.heap.objs.size #[.ref a, .ref b] := ⟨⟨_, by rw [<- e2]; exact Heap.get?_push_size _ rfl, rfl, rfl⟩, by rw [<- e2]; exact hT.push _⟩
 have zs : h2.objs.size ∉ [h1.objs.size, s.heap.objs.size] := fun z => by
  simp only [List.mem_cons, List.not_mem_nil, or_false] at z
  rcases z with z | z
  ·rw [z2] at z; exact Nat.succ_ne_self _ z
  ·rw [z2, z1] at z
   exact absurd z (by intro z; have : s.heap.objs.size < s.heap.objs.size + 1 + 1 := Nat.lt_succ_of_lt (Nat.lt_succ_self _); rw [z] at this; exact Nat.lt_irrefl _ this)
 have nS : h2.objs.size ∉ [h1.objs.size] := fun z => zs (by simp at z; simp [z])
 have up : ∀ c o, s.heap.get? c = some o -> c ∉ [h1.objs.size] /\ c ≠ h2.objs.size /\ (h2.push { cls := .type "list", data := .seq #[] }).get? c = some o := fun c o e => by
  have l1 := Heap.lt_size (k1 c o e)
  have l2 := Heap.lt_size (k2 c o (k1 c o e))
  exact ⟨fun z => by simp at z; rw [z] at l1; exact Nat.lt_irrefl _ l1, Nat.ne_of_lt l2, Heap.get?_push_of_some _ (k2 c o (k1 c o e))⟩
 let G : Heap -> Prop := fun h => fB h a p /\ fB h b q
 have bw : ∀ (x : Addr) (r : P2), fB s.heap x r -> x ∉ [h1.objs.size] /\ x ≠ h2.objs.size := fun x r hx => by
  obtain ⟨o, _, _, _, e, _⟩ := hx
  exact ⟨(up x o e).1, (up x o e).2.1⟩
 have hG : ∀ h h', G h -> (∀ b o, b ∉ [h1.objs.size] -> b ≠ h2.objs.size -> h.get? b = some o -> h'.get? b = some o) -> G h' := fun h h' g k => ⟨g.1.keep fun o e => k a o (bw a p ha).1 (bw a p ha).2 e, g.2.keep fun o e => k b o (bw b q hb).1 (bw b q hb).2 e⟩
 let bt : Nat -> Nat -> Bool := fun i j => dj (if i = 0 then p else q) (if j = 0 then p else q)
 have Ig : ∀ i v, (#[Value.ref a, Value.ref b] : Array Value)[i]? = some v -> (i = 0 /\ v = .ref a) ∨ (i = 1 /\ v = .ref b) := fun i v e => by
  match i, e with
  | 0, e => cases e; exact .inl ⟨rfl, rfl⟩
  | 1, e => cases e; exact .inr ⟨rfl, rfl⟩
  | i + 2, e => simp at e
 have j8 : ∀ i j vi vj (s : Shared) (Q : Value -> Shared -> Prop) (E : Value -> Shared -> Prop), (#[Value.ref a, Value.ref b] : Array Value)[i]? = some vi -> (#[Value.ref a, Value.ref b] : Array Value)[j]? = some vj -> G s.heap -> Q (.bool (bt i j)) s -> wpAny (model prog w) A.in1 (richCompare .Lt vi vj) Q E s := by
  intro i j vi vj s Q E ei ej g hq
  rcases Ig i vi ei with ⟨rfl, rfl⟩ | ⟨rfl, rfl⟩ <;> rcases Ig j vj ej with ⟨rfl, rfl⟩ | ⟨rfl, rfl⟩
  ·exact uB g.1 g.1 hu hq
  ·exact uB g.1 g.2 hu hq
  ·exact uB g.2 g.1 hu hq
  ·exact uB g.2 g.2 hu hq
 have g0 : G (h2.push { cls := .type "list", data := .seq #[] }) := ⟨ha.keep fun o e => (up a o e).2.2, hb.keep fun o e => (up b o e).2.2⟩
 have oS : (h2.push { cls := .type "list", data := .seq #[] }).get? h2.objs.size = some { cls := .type "list", dict := none, data := .seq #[] 0, slots := #[] } := Heap.get?_push_size _ rfl
 have dM := W.frame 0 h2 (h2.push { cls := .type "list", data := .seq #[] }) qo fun b _ o q => Heap.get?_push_of_some _ q
 rw [nm]
 refine wpAny_pure ⟨plainId_quiet PySem.F.plain_min_loop _, ?_⟩
 refine codeAny_builtin PySem.F.entry_min_loop ?_
 rw [Around.under_plainId PySem.F.plain_min_loop _]
 show wpAny _ A.in1 (seqItems? (.ref h2.objs.size) >>= _) _ _ _
 refine wpAny_bind (wpAny_seqItems oS rfl ?_)
 show wpAny _ A.in1 (tryCatch (pyNext (.ref h1.objs.size)) _ >>= _) _ _ _
 refine wpAny_bind (wpAny_tryCatch (W.item 0 _ _ _ (by simp) dM fun v h3 tk pv dv kp => ?_))
 have bS := kp _ _ nS oS
 show wpAny _ A.in1 (updateSeq h2.objs.size (fun _ => #[v, v]) >>= _) _ _ _
 refine wpAny_bind ?_
 refine wpAny_updateSeq bS rfl ?_
 rw [nm]
 have g3 : G h3 := hG _ _ g0 fun b o hw _ e => kp b o hw e
 refine wpAny_pure ⟨plainId_quiet PySem.F.plain_min_loop _, Qm W hG j8 zs 1 0 _ v _ (by simp) (W.frame _ _ _ dv fun b hf o e => ?_) (hG _ _ g3 fun b o _ cO e => (Heap.get?_update_other _ _ (Ne.symm cO)).trans e) pv (Heap.get?_update_self _ bS rfl) fun v2 h4 Qo p4 k4 => ?_⟩
 ·exact (Heap.get?_update_other _ _ (fun z : h2.objs.size = b => zs (by rw [z]; exact hf))).trans e
 ·have ev : v2 = .ref (if dj q p = true then b else a) := by
   have e4 : (#[Value.ref a, Value.ref b] : Array Value)[argBest bt 1]? = some v2 := by simpa using p4
   have zW : argBest bt 1 = if dj q p = true then 1 else 0 := by
    show (if bt 1 0 then 1 else 0) = _
    rfl
   rw [zW] at e4
   by_cases hl : dj q p = true
   ·rw [if_pos hl] at e4 ⊢; cases e4; rfl
   ·rw [if_neg hl] at e4 ⊢; cases e4; rfl
  subst ev
  refine h h4 Qo fun c o e => ?_
  obtain ⟨u1, u2, u3⟩ := up c o e
  exact k4 c o u1 u2 ((Heap.get?_update_other _ _ (Ne.symm u2)).trans (kp c o u1 u3))
end
section
variable {X : Cx}
noncomputable def qN (H : Hp) (Q : VK) (xs : List V) : Prop := ∃ (a b : Addr) (p q : P2), xs = [.ref a, .ref b] /\ H a = some (.tup [.int p.1, .int p.2]) /\ H b = some (.tup [.int q.1, .int q.2]) /\ Q (.ref (if dj q p = true then b else a)) H
theorem Qp (hc : X.calm = true) (hu : X.A.units + 1 < cLine) : ed X (.builtin "min") (fun xs H Q => qN H Q xs) := by
 intro pins s σ H xs us Q I r h
 obtain ⟨a, b, p, q, rfl, ha, hb, hq⟩ := h
 obtain ⟨u, v, rfl, ru, rv⟩ := vals2 r
 cases ru
 cases rv
 have pr : ∀ (x : Addr) (r : P2), H x = some (.tup [.int r.1, .int r.2]) -> fB s.heap x r := fun x r hx => by
  obtain ⟨_, ag, hv, hi⟩ := (show bD X.prog X.w H s.heap x (.tup [.int r.1, .int r.2]) from I.ar x _ hx)
  obtain ⟨u1, u2, rfl, ⟨t1, rfl⟩, ⟨t2, rfl⟩⟩ := vals2 hv
  obtain ⟨o, ho, cu, n, hd⟩ := hi
  exact ⟨o, t1, t2, n, ho, cu, hd⟩
 exact Qn (I.ok.hd hc) (pr a p ha) (pr b q hb) (show X.A.units + 1 < cLine from hu) fun h' tk k => ⟨.ref _, H, I.kept k, rfl, hq⟩
end
end Gz
namespace Gz
open PySem PySem.Spec PyProof.Rows L2
noncomputable def rowOf (H : Hp) : V -> List V
 | .ref p => match H p with
  | some (.tup xs) => xs
  | _ => []
 | _ => []
noncomputable def iw (row : V -> List V) (tt : TT) : TT := fun σ H Q => match σ with
 | some v :: ρ => tt ((row v).map some ++ ρ) H Q
 | _ => False
noncomputable def ix (row : V -> List V) (te : TE) : TE := fun σ H Q => match σ with
 | some v :: ρ => te ((row v).map some ++ ρ) H Q
 | _ => False
section
variable {K : PySem.W.Frag} {ρ : L2.St} {tt : TT} {te : TE} {H : Hp} {Q : VK} {a : Addr} {xs : List V} {row : V -> List V}
noncomputable def uC (K : PySem.W.Frag) (a : Addr) (xs : List V) (row : V -> List V) (k : Nat) (H : Hp) : Prop := ah K H a xs /\ ∀ x ∈ xs, ∃ p, x = .ref p /\ ai K H p (row x) /\ (row x).length = k
theorem Qq {k : Nat} {g : TG} (hg : ∀ (p : Addr) (ys : List V) (os : List (Option V)) (H : Hp) (Q : L2.St -> Hp -> Prop), os.length = k -> ys.length = k -> ai K H p ys -> Q (ys.map some ++ ρ) H -> g (.ref p) (os ++ ρ) H Q)
 (hn : xs.length <= sizeLine) (h : dF (uC K a xs row k) ρ (iw row tt) (ix row te) xs [] H fun zs H' => ∀ l, H' l = none -> Q (.ref l) (upd H' l (.lst zs))) :
 ug k (fN K a) g ρ tt te H Q := by
 refine ⟨fun i m ys H => m = xs.length - i /\ i <= xs.length /\ ys.length <= i /\ dF (uC K a xs row k) ρ (iw row tt) (ix row te) (xs.drop i) ys H fun ys H' => ∀ l, H' l = none -> Q (.ref l) (upd H' l (.lst ys)), ⟨_, rfl, Nat.zero_le _, Nat.le_refl _, h⟩, ?_⟩
 rintro i m ys H ⟨rfl, hi, hy, c⟩
 by_cases a9 : i < xs.length
 ·have e := List.drop_eq_getElem_cons a9
  rw [e] at c
  obtain ⟨⟨c0, c1⟩, c2⟩ := c
  have l1 : ∀ y : V, (ys ++ [y]).length <= i + 1 := fun y => by rw [List.length_append, List.length_singleton]; omega
  have l2 : ys.length <= i + 1 := by omega
  refine .inr ⟨⟨xs, _, c0, List.getElem?_eq_getElem a9⟩, by omega, fun zs H' => zs.length <= i + 1 /\ dF (uC K a xs row k) ρ (iw row tt) (ix row te) (xs.drop (i + 1)) zs H' fun ys H' => ∀ l, H' l = none -> Q (.ref l) (upd H' l (.lst ys)), fun zs H' q => ⟨_, by omega, rfl, a9, q.1, q.2⟩, fun os j6 v H' y => ?_⟩
  obtain ⟨rfl, ex⟩ := y
  have ex := ex xs c0
  rw [List.getElem?_eq_getElem a9] at ex
  obtain ⟨p, ep, hp, hl⟩ := c1 xs[i] (List.getElem_mem _)
  cases ex
  rw [ep] at hp hl c2 ⊢
  refine hg p _ os _ _ j6 hl hp ⟨(row (.ref p)).map some, by rw [List.length_map]; exact hl, rfl, ?_⟩
  simp only [l1, l2, true_and]
  exact c2
 ·have e : i = xs.length := by omega
  subst e
  rw [List.drop_length] at c
  exact .inl ⟨⟨xs, c.1.1, Nat.le_refl _⟩, by omega, c.2⟩
theorem Qr {p : Addr} {ys : List V} {os : List (Option V)} {H : Hp} {Q : L2.St -> Hp -> Prop} (ho : os.length = 3) (hy : ys.length = 3) (h : ai K H p ys) (q : Q (ys.map some ++ ρ) H) : jX K 3 (cf (b6 0) (cf (b6 1) (cf (b6 2) ff))) (.ref p) (os ++ ρ) H Q := by
 match os, ho, ys, hy with
 | [o1, o2, o3], _, [x, y, z], _ => exact uw h q
theorem Ih (hn : xs.length <= sizeLine) (h : dF (uC K a xs row 3) ρ (iw row tt) (ix row te) xs [] H fun zs H' => ∀ l, H' l = none -> Q (.ref l) (upd H' l (.lst zs))) :
 ug 3 (fN K a) (jX K 3 (cf (b6 0) (cf (b6 1) (cf (b6 2) ff)))) ρ tt te H Q := Qq (fun _ _ _ _ _ ho hy h q => Qr ho hy h q) hn h
end
end Gz
namespace Gz
open PySem PySem.Spec PyProof.Rows L2
end Gz
namespace Gz
open PySem PySem.Spec PyProof.Rows L2
theorem Qs (ag : List Value) : slicePick ag.toArray none none (some (-1)) = ag.reverse.toArray := by
 have e1 : sliceBounds none none (some (-1)) ag.toArray.size = (((ag.length : Nat) : Int) - 1, -1, -1) := by
  rw [List.size_toArray]
  rfl
 unfold slicePick
 rw [e1]
 dsimp only
 have e2 : sliceRange (((ag.length : Nat) : Int) - 1) (-1) (-1) = (List.range ag.length).map fun k => ag.length - 1 - k := by
  unfold sliceRange
  have h1 : ¬ ((-1 : Int) > 0) := by omega
  simp only [h1, if_false]
  by_cases h : ag.length = 0
  ·rw [h]; rfl
  ·rw [if_pos (by omega), show (((ag.length : Nat) : Int) - 1 - -1 - -1 - 1) / (- -1) = ((ag.length : Nat) : Int) by
    rw [show (- (-1 : Int)) = 1 by omega, Int.ediv_one]; omega, Int.toNat_natCast]
   refine List.map_congr_left fun k hk => ?_
   have := List.mem_range.mp hk
   omega
 rw [e2]
 congr 1
 refine List.ext_getElem? fun k => ?_
 have key : ((List.range ag.length).map fun k => ag.length - 1 - k).filterMap (ag.toArray[·]?) = (List.range ag.length).map fun k => ag.getD (ag.length - 1 - k) .none := by
  rw [List.filterMap_map]
  have : ∀ (l : List Nat), (∀ k ∈ l, k < ag.length) -> l.filterMap ((fun x => ag.toArray[x]?) ∘ fun k => ag.length - 1 - k) = l.map fun k => ag.getD (ag.length - 1 - k) .none := by
   intro l
   induction l with
   | nil => intro _; rfl
   | cons k l ih =>
    intro h
    have hk := h k (.head _)
    rw [List.filterMap_cons, List.map_cons]
    have e : ((fun x => ag.toArray[x]?) ∘ fun k => ag.length - 1 - k) k = some (ag.getD (ag.length - 1 - k) .none) := by
     show ag.toArray[ag.length - 1 - k]? = _
     rw [List.getElem?_toArray, List.getD_eq_getElem?_getD, List.getElem?_eq_getElem (by omega)]
     rfl
    rw [e, ih fun j hj => h j (.tail _ hj)]
  exact this _ fun k hk => List.mem_range.mp hk
 rw [key]
 by_cases hk : k < ag.length
 ·rw [List.getElem?_map, List.getElem?_range hk, List.getElem?_reverse hk]
  simp only [Option.map_some]
  rw [List.getD_eq_getElem?_getD, List.getElem?_eq_getElem (by omega)]
  rfl
 ·rw [List.getElem?_eq_none (by rw [List.length_map, List.length_range]; omega), List.getElem?_eq_none (by rw [List.length_reverse]; omega)]
section
variable {X : Cx} {e st : Expr} {te ts : TE} {p2 pos : Pos}
noncomputable def qO (K : PySem.W.Frag) (te ts : TE) : TE := fun σ H Q => te σ H fun x H1 => ts σ H1 fun y H2 => y = .int (-1) /\ ∃ a xs, x = .ref a /\ ah K H2 a xs /\ ∀ p, H2 p = none -> Q (.ref p) (upd H2 p (.lst xs.reverse))
theorem Ii (he : PE X e te) (hs : PE X st ts) : PE X (.Subscript e (.Slice none none (some st) p2) pos) (qO X.K te ts) := by
 intro pins s σ H Q I h
 refine Subscript_ (aB (he pins s σ H _ I h) fun v s1 ⟨x, H1, I1, r1, q1⟩ => ?_)
 refine wpAny_Slice ?_
 rw [evalPart_none]
 refine wpAny_pure (wpAny_pure ?_)
 rw [evalPart_some]
 refine aB (hs pins s1 σ H1 _ I1 q1) fun u s2 ⟨y, H2, I2, r2, q2⟩ => ?_
 obtain ⟨rfl, a, xs, rfl, hx, q⟩ := q2
 obtain ⟨t, rfl⟩ := r2
 cases r1
 have I4 : Inv X pins σ H2 { s2 with heap := s2.heap.push { cls := .type "slice", data := .fields #[.none, .none, .int (-1) t] } } := I2.kept (t' := s2.toks) fun b ob q => Heap.get?_push_of_some _ q
 obtain ⟨ag, r, ht, hz⟩ := I4.list hx
 have hlen := r.length
 show wpAny (model X.prog X.w) X.A (subscriptTail e (.Slice none none (some st) p2) (.ref a) (.ref s2.heap.objs.size)) (EP X pins σ Q) X.xe { s2 with heap := s2.heap.push { cls := .type "slice", data := .fields #[.none, .none, .int (-1) t] } }
 refine tail_any (ops := [.ref a, .ref s2.heap.objs.size]) ht.isList.typeIs slot_list_getitem.lookup ?_ (by with_unfolding_all rfl)
 refine wpAny_getItem_list_slice ht.isList (Heap.IsSliceOf.new ..) .none .none (.int (-1) t) (by simp) ?_ (by rw [List.size_toArray]; omega)
 rw [Qs]
 refine ⟨.ref _, _, I4.laid (t' := s2.toks) (o := .lst xs.reverse) (fun b ob q => Heap.get?_push_of_some _ q) (Nat.le_refl _) ?_, rfl, q _ (I4.ar.fresh (Nat.le_refl _))⟩
 exact ⟨by rw [List.length_reverse]; exact hz, _, 0, r.reverse, Heap.get?_push_size _ rfl⟩
end
theorem Qt {K : PySem.W.Frag} {a : Addr} {xs : List V} {ρ : L2.St} {tt : TT} {te : TE} {H : Hp} {Q : VK} (hn : xs.length <= sizeLine) (h : dF (fun H => ah K H a xs) ρ tt te xs.reverse [] H fun ys H' => ∀ l, H' l = none -> Q (.ref l) (upd H' l (.lst ys))) : qq (t8 K a xs.length) ρ tt te H Q := by
 have hr : xs.reverse.length = xs.length := List.length_reverse
 refine ⟨fun i m ys H => m = xs.length - i /\ i <= xs.length /\ ys.length <= i /\ dF (fun H => ah K H a xs) ρ tt te (xs.reverse.drop i) ys H fun ys H' => ∀ l, H' l = none -> Q (.ref l) (upd H' l (.lst ys)), ⟨_, rfl, Nat.zero_le _, Nat.le_refl _, h⟩, ?_⟩
 rintro i m ys H ⟨rfl, hi, hy, g⟩
 by_cases a9 : i < xs.length
 ·have e := List.drop_eq_getElem_cons (show i < xs.reverse.length by omega)
  rw [e] at g
  obtain ⟨g0, g1⟩ := g
  refine .inr ⟨⟨xs, _, g0, rfl, List.getElem?_eq_getElem (by omega)⟩, by omega, fun zs H' => zs.length <= i + 1 /\ dF (fun H => ah K H a xs) ρ tt te (xs.reverse.drop (i + 1)) zs H' fun ys H' => ∀ l, H' l = none -> Q (.ref l) (upd H' l (.lst ys)), fun zs H' q => ⟨_, by omega, rfl, a9, q.1, q.2⟩, fun x H' y => ?_⟩
  obtain ⟨rfl, ex⟩ := y
  have ex := ex xs g0 rfl
  rw [List.getElem?_eq_getElem (by omega)] at ex
  cases ex
  have l1 : ∀ y : V, (ys ++ [y]).length <= i + 1 := fun y => by rw [List.length_append, List.length_singleton]; omega
  have l2 : ys.length <= i + 1 := by omega
  simp only [l1, l2, true_and]
  exact g1
 ·have e : i = xs.length := by omega
  subst e
  rw [List.drop_of_length_le (by omega)] at g
  exact .inl ⟨rfl, by omega, g.2⟩
end Gz
namespace Gz
open PySem PySem.Spec PyProof.Rows L2
section
variable {prog : Program} {w : World} {A : Around} {E : Value -> Shared -> Prop} {s : Shared}
end
section
variable {X : Cx} {pos : Pos}
end
end Gz
namespace Gz
open PySem PySem.Spec PyProof.Rows L2
noncomputable def fY (u : Value) : Bool := match u with | .none => true | _ => false
noncomputable def fZ (v : V) : Bool := decide (v = .non)
noncomputable def l5 (H : Hp) (xs : List V) : Prop := ∀ v ∈ xs, v = .non ∨ ∃ a ys, v = .ref a /\ H a = some (.tup ys)
section
variable {X : Cx} {pos : Pos}
theorem Ij {x : V} {u : Value} {H : Hp} (r : RelV x u) (h : x = .non ∨ ∃ a ys, x = .ref a /\ H a = some (.tup ys)) : fY u = fZ x := by
 rcases h with rfl | ⟨a, ys, rfl, _⟩
 ·cases r; rfl
 ·cases r; rfl
theorem Ik {H : Hp} : ∀ {xs : List V} {us : List Value}, Vals xs us -> l5 H xs -> us.any fY = xs.any fZ
 | _, _, .nil, _ => rfl
 | x :: xs, u :: us, .cons r t, f => by
  rw [List.any_cons, List.any_cons, Ij r (f x (.head _)), Ik t fun v hv => f v (.tail _ hv)]
theorem z7 {H : Hp} : ∀ {xs : List V} {us : List Value}, Vals xs us -> l5 H xs -> ∀ (m : Nat) (h : m < us.length), fY us[m] = fZ (xs.getD m .non)
 | _, _, .nil, _, m, h => absurd h (Nat.not_lt_zero _)
 | x :: xs, u :: us, .cons r t, f, 0, h => Ij r (f x (.head _))
 | x :: xs, u :: us, .cons r t, f, m + 1, h => z7 t (fun v hv => f v (.tail _ hv)) m (Nat.lt_of_succ_lt_succ h)
theorem z8 {pins : List (Addr × Obj)} {σ : L2.St} {H : Hp} {s : Shared} {A : Around} (I : Inv X pins σ H s) (hu : A.units < cLine) : ∀ {xs : List V} {us : List Value}, Vals xs us -> l5 H xs -> ∀ u ∈ us, SeqAt.EqAt A s u .none (fY u)
 | _, _, .nil, _ => fun u hu => by cases hu
 | x :: xs, u :: us, .cons r t, f => fun u' z9 => by
  rcases List.mem_cons.mp z9 with rfl | z9
  ·rcases f x (.head _) with rfl | ⟨a, ys, rfl, ha⟩
   ·cases r; exact SeqAt.EqAt.same _
   ·cases r
    obtain ⟨_, ag, r', o', k1, k2, n, k3⟩ := (show bD X.prog X.w H s.heap a (.tup ys) from I.ar a _ ha)
    exact SeqAt.EqAt.tuple_none ⟨o', k1, k2, n, k3⟩ hu
  ·exact z8 I hu t (fun v hv => f v (.tail _ hv)) u' z9
noncomputable def Qu (K : PySem.W.Frag) : R2 := fun x y H Q => ∃ a xs, x = .non /\ y = .ref a /\ ah K H a xs /\ l5 H xs /\ Q (.bl (xs.any fZ)) H
theorem Aa (hu : X.A.units + 1 < cLine) : bI X (compareOp .In) (Qu X.K) := by
 intro pins s σ H x y v u Q I rx ry h
 obtain ⟨a, xs, rfl, rfl, hq, hn, q⟩ := h
 cases rx
 cases ry
 obtain ⟨ag, r, pl, hz⟩ := I.list hq
 refine SeqAt.in_listAt fY pl.isList (fun w hw => z8 I (A := X.A.in1) (tupleKind_room_in1 (knd := gO X.prog X.w) hu) r hn w (by simpa using hw)) ⟨.bl _, H, I, rfl, ?_⟩
 rw [show ag.toArray.any fY = ag.any fY by simp, Ik r hn]
 exact q
noncomputable def Qv (K : PySem.W.Frag) (x : V) (ys : List V) (H : Hp) (Q : VK) : Prop := ∃ a xs j, x = .ref a /\ ys = [.non] /\ ah K H a xs /\ l5 H xs /\ j < xs.length /\ xs.length <= 1000 /\ fZ (xs.getD j .non) = true /\ (∀ m, m < j -> fZ (xs.getD m .non) = false) /\ Q (.int (j : Nat)) H
theorem Il (hu : X.A.units + 1 < cLine) : Gv X "list.index" (Qv X.K) := by
 intro pins s σ H x xs v us Q I rx r h
 obtain ⟨a, xs, j, rfl, rfl, hq, hn, hj, hl, h1, h2, q⟩ := h
 cases rx
 obtain ⟨u, rfl, ru⟩ := vals1 r
 cases ru
 obtain ⟨ag, r, pl, hz⟩ := I.list hq
 obtain ⟨⟨cls, dd, data, sl⟩, ho, hc, n, hd⟩ := id pl.isList
 simp only at hc hd
 subst hc hd
 have hlen : ag.length = xs.length := (Vals.length r).symm
 refine call_meets PySem.F.slot_list_index ⟨_, ho, rfl⟩ PySem.F.entry_list_index (PySem.F.args_list_index_2 _ _)
  (SeqAt.list_indexAt a ag.toArray n dd sl .none fY j (by simpa [hlen] using hj) (by omega) ?_ ?_) ⟨ho, fun y hy => z8 I (A := X.A.in1) (tupleKind_room_in1 (knd := gO X.prog X.w) hu) r hn y (by simpa using hy), ?_⟩
 ·show fY ag[j] = true
  rw [z7 r hn]; exact h1
 ·intro m hm a9
  show fY ag[m] = false
  rw [z7 r hn]; exact h2 m a9
 ·exact ⟨.int j, H, I.tok _, ⟨_, rfl⟩, q⟩
end
end Gz
namespace Gz
open PySem PySem.Spec PyProof.Rows L2
local macro_rules | `(tactic| walk_at "om") => `(tactic| ((try simp only [PySem.Addr] at *); omega))
noncomputable abbrev f9 (h : Heap) (e it : Addr) (i : Int) (old : Value) (a : Addr) (f : Bool) : Prop :=
 h.get? e = some { cls := .type "enumerate", dict := none, data := .fields #[rawInt a, .bool f, .ref it, rawInt i, .none, old], slots := #[] }
section
variable {prog : Program} {w : World} {A : Around} {E : Value -> Shared -> Prop} {s : Shared}
theorem Qw {e it l a : Addr} {f : Bool} {oa : Obj} {i : Nat} {items : Array Value} {x old : Value} {Q : Option Value -> Shared -> Prop}
 (he : f9 s.heap e it i old a f) (ha : s.heap.get? a = some oa) (Qx : a ≠ e) (Qy : a ≠ it) (hit : s.heap.IsListIter it l i) (hl : s.heap.IsList l items) (hx : items[i]? = some x) (bW : e ≠ it)
 (hQ : ∀ h', f9 h' e it ((i : Int) + 1) old a true -> h'.IsListIter it l (i + 1) ->
   h'.get? s.heap.objs.size = some { cls := .type "tuple", data := .seq #[.int i s.toks, x] } -> h'.objs.size = s.heap.objs.size + 1 ->
   (∀ b o, b ≠ e -> b ≠ it -> s.heap.get? b = some o -> h'.get? b = some o) -> Q (some (.ref s.heap.objs.size)) { s with heap := h', toks := s.toks + 1 }) :
 wpAny (model prog w) A (pyNext (.ref e)) Q E s := by
 have hT : s.TypeIs (.ref e) "enumerate" := ⟨_, he, rfl⟩
 obtain ⟨hp, g, d, tk, os⟩ := s
 unfold pyNext
 refine wpAny_bind (wpAny_attempt (wpAny_callSpecial?_slot (name := Str.ofString "__next__") hT PySem.F.slot_enumerate_next
  (wpAny_call_entry PySem.F.slot_enumerate_next hT PySem.F.entry_enumerate_next ?_ (PySem.F.args_enumerate_next_1 _))))
 show wpAny _ _ (field (.ref e) 2 >>= _) _ _ _
 refine wpAny_bind (wpAny_field he rfl (x := .ref it) rfl ?_)
 refine wpAny_bind (wpAny_nextOf_list_item hit hl hx fun h₁ Im l6 => ?_)
 replace l6 : Heap.SameBut it hp h₁ := l6
 have uD : f9 h₁ e it i old a f := (l6.2 e bW).trans he
 show wpAny _ _ (field (.ref e) 3 >>= _) _ _ ⟨h₁, g, d, tk, os⟩
 refine wpAny_bind (wpAny_field uD rfl (x := rawInt i) rfl ?_)
 show wpAny _ _ (field (.ref e) 4 >>= _) _ _ ⟨h₁, g, d, tk, os⟩
 refine wpAny_bind (wpAny_field uD rfl (x := .none) rfl ?_)
 show wpAny _ _ (mkInt i >>= _) _ _ ⟨h₁, g, d, tk, os⟩
 refine wpAny_bind (wpAny_mkInt ?_)
 show wpAny _ _ (setField (.ref e) 3 (rawInt ((i : Int) + 1)) >>= _) _ _ ⟨h₁, g, d, tk + 1, os⟩
 refine wpAny_bind (wpAny_setField_rec uD (by simp) fun h₂ uE l8 => ?_)
 replace l8 : Heap.SameBut e h₁ h₂ := l8
 replace uE : f9 h₂ e it ((i : Int) + 1) old a f := uE
 show wpAny _ _ (setField (.ref e) 4 .none >>= _) _ _ ⟨h₂, g, d, tk + 1, os⟩
 refine wpAny_bind (wpAny_setField_rec uE (by simp) fun h₃ uF ma => ?_)
 replace ma : Heap.SameBut e h₂ h₃ := ma
 replace uF : f9 h₃ e it ((i : Int) + 1) old a f := uF
 show wpAny _ _ (newTuple [.int i tk, x] >>= _) _ _ ⟨h₃, g, d, tk + 1, os⟩
 refine wpAny_bind (wpAny_newTuple ?_)
 have qP : f9 (h₃.push { cls := .type "tuple", data := .seq #[.int i tk, x] }) e it ((i : Int) + 1) old a f := Heap.get?_push_of_some _ uF
 generalize qQ : h₃.push { cls := .type "tuple", data := .seq #[.int i tk, x] } = h₄ at qP
 have b7 : h₃.objs.size = hp.objs.size := by rw [ma.1, l8.1, l6.1]
 have Qz : e < hp.objs.size := Heap.lt_size he
 have QA : h₄.get? hp.objs.size = some { cls := .type "tuple", data := .seq #[.int i tk, x] } := by rw [<- qQ, <- b7]; exact Heap.get?_push_size _ rfl
 have QB : h₄.objs.size = hp.objs.size + 1 := by rw [<- qQ, Heap.size_push, b7]
 have Io : ∀ b o, b ≠ e -> b ≠ it -> hp.get? b = some o -> h₄.get? b = some o := fun b o fH QC hb => by
  rw [<- qQ]; exact Heap.get?_push_of_some _ (ma.extBut b o fH (l8.extBut b o fH (l6.extBut b o QC hb)))
 have QD : h₄.IsListIter it l (i + 1) := by
  rw [<- qQ]; obtain ⟨o, ho, r⟩ := (Im.extBut l8.extBut (Ne.symm bW)).extBut ma.extBut (Ne.symm bW); exact ⟨o, Heap.get?_push_of_some _ ho, r⟩
 show wpAny _ _ (Builtin.SmallTypes.ownedTupleIsFree (.ref e) >>= _) _ _ ⟨h₄, g, d, tk + 1, os⟩
 rw [b7]
 clear qQ uF ma uE l8 uD l6 Im b7 h₃ h₂ h₁
 have QE : h₄.get? a = some oa := Io a oa Qx Qy ha
 refine wpAny_bind ?_
 unfold Builtin.SmallTypes.ownedTupleIsFree
 refine wpAny_bind (wpAny_field qP rfl (x := rawInt a) rfl ?_)
 show wpAny _ _ (loadIfAlive ((a : Int).toNat) >>= _) _ _ _
 rw [Int.toNat_natCast]
 refine wpAny_bind (PySem.W.kdx_alive QE ?_)
 simp only [Option.isNone_some, Bool.false_eq_true, if_false]
 refine wpAny_bind (wpAny_field qP rfl (x := .bool f) rfl ?_)
 have fin : ∀ h₅ : Heap, f9 h₅ e it ((i : Int) + 1) old a true -> Heap.SameBut e h₄ h₅ -> Q (some (.ref hp.objs.size)) ⟨h₅, g, d, tk + 1, os⟩ := fun h₅ qR iy =>
  hQ h₅ qR (QD.extBut iy.extBut (Ne.symm bW)) (iy.extBut _ _ (Nat.ne_of_gt Qz) QA) (by show h₅.objs.size = hp.objs.size + 1; rw [iy.1, QB]) fun b o Ip QF q => iy.extBut b o Ip (Io b o Ip QF q)
 cases f with
 | true =>
  rw [if_neg (show ¬ ((Value.bool true != Value.bool true) = true) from Bool.false_ne_true)]
  refine wpAny_pure ?_
  simp only [Bool.false_eq_true, if_false]
  exact wpAny_pure ⟨_, rfl, wpAny_pure (fin h₄ qP (Heap.SameBut.refl _ _))⟩
 | false =>
  rw [if_pos (show (Value.bool false != Value.bool true) = true from rfl)]
  refine wpAny_bind (wpAny_setField_rec qP (by simp) fun h₅ qR iy => ?_)
  replace iy : Heap.SameBut e h₄ h₅ := iy
  replace qR : f9 h₅ e it ((i : Int) + 1) old a true := qR
  refine wpAny_pure ?_
  simp only [Bool.false_eq_true, if_false]
  exact wpAny_pure ⟨_, rfl, wpAny_pure (fin h₅ qR iy)⟩
theorem QG {e it l a : Addr} {f : Bool} {i : Nat} {items : Array Value} {old : Value} {Q : Option Value -> Shared -> Prop} (hh : A.handled = none)
 (he : f9 s.heap e it i old a f) (hit : s.heap.IsListIter it l i) (hl : s.heap.IsList l items) (hx : items[i]? = none)
 (hQ : ∀ h', Heap.ExtBut it s.heap h' -> Q none { s with heap := h' }) : wpAny (model prog w) A (pyNext (.ref e)) Q E s := by
 have hT : s.TypeIs (.ref e) "enumerate" := ⟨_, he, rfl⟩
 unfold pyNext
 refine wpAny_bind (wpAny_attempt (wpAny_callSpecial?_slot (name := Str.ofString "__next__") hT PySem.F.slot_enumerate_next
  (wpAny_call_entry PySem.F.slot_enumerate_next hT PySem.F.entry_enumerate_next ?_ (PySem.F.args_enumerate_next_1 _))))
 show wpAny _ _ (field (.ref e) 2 >>= _) _ _ _
 refine wpAny_bind (wpAny_field he rfl (x := .ref it) rfl ?_)
 refine wpAny_bind (wpAny_nextOf_list_end hh hit hl hx fun h' x QH bR => ?_)
 obtain ⟨o, ho, hc⟩ := bR
 refine wpAny_bind (wpAny_isInstance (T := "StopIteration") (b := true) ⟨o, ho, hc⟩ isSubtype_stop ?_)
 exact wpAny_pure (hQ _ QH)
noncomputable def fD (h : Heap) (e it S : Addr) (i : Nat) : Prop :=
 (∃ old, IsEnum h e it i old) ∨ ∃ old a f oa, f9 h e it i old a f /\ h.get? a = some oa /\ a ≠ e /\ a ≠ it /\ a ≠ S
theorem fD.keep {h h' : Heap} {e it S : Addr} {i : Nat} (x : fD h e it S i) (hk : ∀ b o, b ≠ S -> h.get? b = some o -> h'.get? b = some o) (hI : e ≠ S) : fD h' e it S i := by
 rcases x with ⟨old, q⟩ | ⟨old, a, f, oa, q, ha, h1, h2, h3⟩
 ·exact .inl ⟨old, hk _ _ hI q⟩
 ·exact .inr ⟨old, a, f, oa, hk _ _ hI q, hk _ _ h3 ha, h1, h2, h3⟩
theorem fD.ty {e it S : Addr} {i : Nat} (x : fD s.heap e it S i) : s.TypeIs (.ref e) "enumerate" := by
 rcases x with ⟨old, q⟩ | ⟨old, a, f, oa, q, _⟩
 ·exact ⟨_, q, rfl⟩
 ·exact ⟨_, q, rfl⟩
theorem fD.lt {h : Heap} {e it S : Addr} {i : Nat} (x : fD h e it S i) : e < h.objs.size := by
 rcases x with ⟨old, q⟩ | ⟨old, a, f, oa, q, _⟩
 ·exact Heap.lt_size q
 ·exact Heap.lt_size q
theorem QI {e it l S : Addr} {i : Nat} {items : Array Value} {x : Value} {Q : Option Value -> Shared -> Prop} (st : fD s.heap e it S i) (hS : S < s.heap.objs.size)
 (hit : s.heap.IsListIter it l i) (hl : s.heap.IsList l items) (hx : items[i]? = some x) (bW : e ≠ it)
 (hQ : ∀ h', fD h' e it S (i + 1) -> h'.IsListIter it l (i + 1) ->
   h'.get? s.heap.objs.size = some { cls := .type "tuple", data := .seq #[.int i s.toks, x] } -> h'.objs.size = s.heap.objs.size + 1 ->
   (∀ b o, b ≠ e -> b ≠ it -> s.heap.get? b = some o -> h'.get? b = some o) -> Q (some (.ref s.heap.objs.size)) { s with heap := h', toks := s.toks + 1 }) :
 wpAny (model prog w) A (pyNext (.ref e)) Q E s := by
 have ce : ((i : Int) + 1) = ((i + 1 : Nat) : Int) := by omega
 have hi : it < s.heap.objs.size := let ⟨_, q, _⟩ := hit; Heap.lt_size q
 rcases st with ⟨old, he⟩ | ⟨old, a, f, oa, he, ha, h1, h2, h3⟩
 ·exact wpAny_pyNext_enum_item he hit hl hx bW fun h' q1 q2 q3 q4 q5 => hQ h' (.inr ⟨x, _, false, _, by rw [<- ce]; exact q1, q3, Nat.ne_of_gt (Heap.lt_size he), Nat.ne_of_gt hi, Nat.ne_of_gt hS⟩) q2 q3 q4 q5
 ·exact Qw he ha h1 h2 hit hl hx bW fun h' q1 q2 q3 q4 q5 => hQ h' (.inr ⟨old, a, true, oa, by rw [<- ce]; exact q1, q5 a oa h1 h2 ha, h1, h2, h3⟩) q2 q3 q4 q5
theorem QJ {e it l S : Addr} {i : Nat} {items : Array Value} {Q : Option Value -> Shared -> Prop} (hh : A.handled = none) (st : fD s.heap e it S i) (hit : s.heap.IsListIter it l i) (hl : s.heap.IsList l items) (hx : items[i]? = none)
 (hQ : ∀ h', Heap.ExtBut it s.heap h' -> Q none { s with heap := h' }) : wpAny (model prog w) A (pyNext (.ref e)) Q E s := by
 rcases st with ⟨old, he⟩ | ⟨old, a, f, oa, he, _⟩
 ·exact wpAny_pyNext_enum_end hh he hit hl hx hQ
 ·exact QG hh he hit hl hx hQ
end
structure gJ (items : Array Value) (lo : Addr) (h : Heap) (as : List Addr) : Prop where
 rise : as.Pairwise (· < ·)
 above : ∀ a ∈ as, lo <= a
 pairs : ∀ (j : Nat) (a : Addr), as[j]? = some a -> ∃ t x, items[j]? = some x /\ h.get? a = some { cls := .type "tuple", data := .seq #[.int j t, x] }
theorem gJ.there {items : Array Value} {lo : Addr} {h : Heap} {as : List Addr} (g : gJ items lo h as) {a : Addr} (ha : a ∈ as) : a < h.objs.size := by
 obtain ⟨j, hj⟩ := List.mem_iff_getElem?.mp ha
 obtain ⟨_, _, _, e⟩ := g.pairs j a hj
 exact Heap.lt_size e
theorem gJ.keep {items : Array Value} {lo : Addr} {h h' : Heap} {as : List Addr} (g : gJ items lo h as) (k : ∀ b o, lo <= b -> h.get? b = some o -> h'.get? b = some o) : gJ items lo h' as :=
 ⟨g.rise, g.above, fun j a hj => let ⟨t, x, e1, e2⟩ := g.pairs j a hj; ⟨t, x, e1, k a _ (g.above a (List.mem_of_getElem? hj)) e2⟩⟩
section
variable {prog : Program} {w : World} {A : Around} {s : Shared} {R : Result -> Shared -> Prop} {items : Array Value}
theorem QK {S e it l lo : Addr} (hh : A.handled = none) (bW : e ≠ it) (md : S ≠ e) (me : S ≠ it) (uG : l ≠ S) (hle : l ≠ e) (qS : l ≠ it) (Iq : S < lo) (QL : e < lo) (Ir : it < lo) (hn : items.size <= sizeLine) (res : Value) {h₁ : Heap}
 (hR : ∀ h' tk acc c as, (∀ b o, b ≠ S -> b ≠ e -> b ≠ it -> h₁.get? b = some o -> h'.get? b = some o) -> h'.get? S = some { cls := .type "list", dict := none, data := .seq acc c, slots := #[] } -> as.length = items.size -> gJ items lo h' as ->
   acc.toList = as.map Value.ref -> R (.ok (.ret res)) { s with heap := h', toks := tk }) :
 ∀ (k i : Nat) (h : Heap) (tk c : Nat) (acc : Array Value) (as : List Addr), items.size - i = k -> i <= items.size -> fD h e it S i -> h.IsListIter it l i -> h.IsList l items -> (∀ b o, b ≠ S -> b ≠ e -> b ≠ it -> h₁.get? b = some o -> h.get? b = some o) ->
  h.get? S = some { cls := .type "list", dict := none, data := .seq acc c, slots := #[] } -> acc.toList = as.map Value.ref -> as.length = i -> gJ items lo h as -> lo <= h.objs.size ->
  codeAny (model prog w) A (.builtin "list.extend.loop" ⟨[.ref S, .ref e, res], []⟩) R { s with heap := h, toks := tk } := by
 intro k
 induction k with
 | zero =>
  intro i h tk c acc as hk hi cn hit hl Ab hS gb iz hG hz
  have hJ : i = items.size := by omega
  refine codeAny_builtin PySem.F.entry_extend_loop ?_
  rw [Around.under_plainId PySem.F.plain_extend_loop _]
  show wpAny _ A.in1 (pyNext (.ref e) >>= _) _ _ _
  refine wpAny_bind (QJ (s := { s with heap := h, toks := tk }) (A := A.in1) hh cn hit hl (Array.getElem?_eq_none (by omega)) fun h' he => ?_)
  exact wpAny_pure (hR h' tk acc c as (fun b o h1 h2 h3 q => he b o h3 (Ab b o h1 h2 h3 q)) (he S _ me hS) (by omega) (hG.keep fun b o hb q => he b o (Nat.ne_of_gt (Nat.lt_of_lt_of_le Ir hb)) q) gb)
 | succ k ih =>
  intro i h tk c acc as hk hi cn hit hl Ab hS gb iz hG hz
  have a9 : i < items.size := by omega
  refine codeAny_builtin PySem.F.entry_extend_loop ?_
  rw [Around.under_plainId PySem.F.plain_extend_loop _]
  show wpAny _ A.in1 (pyNext (.ref e) >>= _) _ _ _
  refine wpAny_bind (QI (s := { s with heap := h, toks := tk }) (A := A.in1) cn (Heap.lt_size hS) hit hl (Array.getElem?_eq_getElem a9) bW fun h' bH ku hT b7 gK => ?_)
  have Iu := gK S _ md me hS
  have Iv : acc.size = i := by
   have : acc.toList.length = i := by rw [gb, List.length_map, iz]
   simpa using this
  show wpAny _ A.in1 (updateSeq S (·.push (.ref h.objs.size)) >>= _) _ _ _
  refine wpAny_bind ?_
  have Iw : lo <= h.objs.size := hz
  have sb : ∀ b o, b ≠ S -> h'.get? b = some o -> (h'.update S (Obj.mapSeq (·.push (.ref h.objs.size)))).get? b = some o := fun b o hb q => (Heap.get?_update_other _ _ (Ne.symm hb)).trans q
  refine wpAny_updateSeq Iu rfl (wpAny_pure ⟨plainId_quiet PySem.F.plain_extend_loop _, ih (i + 1) _ (tk + 1) _ (acc.push (.ref h.objs.size)) (as ++ [h.objs.size]) (by omega) a9
   (bH.keep sb (Ne.symm md)) (ku.at fun o q => sb it o (Ne.symm me) q) ((hl.at fun o q => gK l o hle qS q).at fun o q => sb l o uG q)
   (fun b o h1 h2 h3 q => sb b o h1 (gK b o h2 h3 (Ab b o h1 h2 h3 q))) (Heap.get?_update_self _ Iu rfl) (by rw [Array.toList_push, gb]; simp) (by rw [List.length_append, iz]; rfl) ?_ ?_⟩)
   (by rw [Iv]; omega) (by show (acc.push _).size <= sizeLine + 1; rw [Array.size_push, Iv]; omega)
  ·have up : ∀ b o, lo <= b -> h.get? b = some o -> (h'.update S (Obj.mapSeq (·.push (.ref h.objs.size)))).get? b = some o := fun b o hb q =>
    sb b o (Nat.ne_of_gt (Nat.lt_of_lt_of_le Iq hb)) (gK b o (Nat.ne_of_gt (Nat.lt_of_lt_of_le QL hb)) (Nat.ne_of_gt (Nat.lt_of_lt_of_le Ir hb)) q)
   have G' := hG.keep up
   refine ⟨?_, ?_, ?_⟩
   ·refine List.pairwise_append.mpr ⟨hG.rise, List.pairwise_singleton _ _, fun a ha b hb => ?_⟩
    rw [List.mem_singleton.mp hb]; exact hG.there ha
   ·intro a ha
    rcases List.mem_append.mp ha with ha | ha
    ·exact hG.above a ha
    ·rw [List.mem_singleton.mp ha]; exact Iw
   ·intro j a hj
    by_cases hjl : j < as.length
    ·rw [List.getElem?_append_left hjl] at hj
     exact G'.pairs j a hj
    ·rw [List.getElem?_append_right (by omega)] at hj
     have QM : j - as.length = 0 := by
      rcases Nat.eq_zero_or_pos (j - as.length) with z | z
      ·exact z
      ·rw [List.getElem?_eq_none (by rw [List.length_singleton]; exact z)] at hj; cases hj
     rw [QM] at hj
     cases hj
     obtain rfl : j = i := by omega
     exact ⟨_, _, Array.getElem?_eq_getElem a9, sb _ _ (Nat.ne_of_gt (Nat.lt_of_lt_of_le Iq Iw)) hT⟩
  ·rw [(Heap.SameBut.update ..).1]
   show lo <= h'.objs.size
   rw [b7]
   exact Nat.le_succ_of_le hz
end
theorem QN : typeLookup (.type "enumerate") "__len__" = pure none := by rw [typeLookup_type, builtinLookup_eq_fast]; kernel_rfl
theorem QO : typeLookup (.type "enumerate") "__length_hint__" = pure none := by rw [typeLookup_type, builtinLookup_eq_fast]; kernel_rfl
section
variable {prog : Program} {w : World} {A : Around} {E : Value -> Shared -> Prop} {s : Shared} {e it l : Addr} {items : Array Value}
theorem QP {R : Result -> Shared -> Prop} (hh : A.handled = none) (old : Value) (he : IsEnum s.heap e it 0 old) (hit : s.heap.IsListIter it l 0) (hl : s.heap.IsList l items) (bW : e ≠ it) (hle : l ≠ e) (qS : l ≠ it) (S : Addr) (md : S ≠ e) (me : S ≠ it) (uG : l ≠ S) (res : Value) (c : Nat)
 (hS : s.heap.get? S = some { cls := .type "list", data := .seq #[] c }) (hn : items.size <= sizeLine)
 (hR : ∀ g tk acc c' as, (∀ b o, b ≠ S -> b ≠ e -> b ≠ it -> s.heap.get? b = some o -> g.get? b = some o) -> g.get? S = some { cls := .type "list", dict := none, data := .seq acc c', slots := #[] } -> as.length = items.size -> gJ items s.heap.objs.size g as ->
   acc.toList = as.map Value.ref -> R (.ok (.ret res)) { s with heap := g, toks := tk }) :
 wpAny (model prog w) A.in1 (Builtin.List.listExtendWith (.ref S) (.ref e) res)
  (fun f u => match f with | .done f => R (.ok f) u | .again k => k.quiet = true /\ codeAny (model prog w) A k R u) (fun e u => R (.error e) u) s := by
 have h1 : Builtin.List.listSameRef (.ref S) (.ref e) = false := by simp [Builtin.List.listSameRef, md]
 have hT : s.TypeIs (.ref e) "enumerate" := ⟨_, he, rfl⟩
 unfold Builtin.List.listExtendWith
 refine wpAny_bind (wpAny_typeOf hT ?_)
 rw [if_neg (by rw [h1]; decide)]
 refine wpAny_bind (wpAny_pyIter_enum he ?_)
 refine wpAny_bind (wpAny_holding ?_)
 unfold Builtin.List.listLengthHint
 refine wpAny_bind (wpAny_specialOf hT QN ?_)
 show wpAny _ A.in1 (specialOf (Value.ref e) (Str.ofString "__length_hint__") >>= _) _ _ _
 refine wpAny_bind (wpAny_specialOf hT QO ?_)
 refine wpAny_pure ?_
 show wpAny _ A.in1 (rule "list.extend.makes-room" >>= fun _ => Builtin.List.listTouch (.ref S) >>= fun _ => again (.builtin "list.extend.loop" ⟨[.ref S, .ref e, res], []⟩)) _ _ _
 refine wpAny_bind (wpAny_rule ?_)
 refine wpAny_bind ?_
 show wpAny _ A.in1 (updateSeq S (·.push .none) >>= fun _ => updateSeq S (·.pop)) _ _ _
 refine wpAny_bind (wpAny_updateSeq hS rfl ?_)
 have qT := Heap.get?_update_self (Obj.mapSeq (·.push Value.none)) hS rfl
 refine wpAny_updateSeq qT rfl ?_
 have Ac := Heap.get?_update_self (Obj.mapSeq (·.pop)) qT rfl
 have eu : ∀ b o, b ≠ S -> s.heap.get? b = some o -> ((s.heap.update S (Obj.mapSeq (·.push Value.none))).update S (Obj.mapSeq (·.pop))).get? b = some o :=
  fun b o hb e => (Heap.get?_update_other _ _ (Ne.symm hb)).trans ((Heap.get?_update_other _ _ (Ne.symm hb)).trans e)
 have sz : ((s.heap.update S (Obj.mapSeq (·.push Value.none))).update S (Obj.mapSeq (·.pop))).objs.size = s.heap.objs.size := by rw [(Heap.SameBut.update ..).1, (Heap.SameBut.update ..).1]
 refine wpAny_pure ⟨plainId_quiet PySem.F.plain_extend_loop _, QK (s := s) (l := l) (it := it) (lo := s.heap.objs.size) (items := items) (h₁ := s.heap) hh bW md me uG hle qS (Heap.lt_size hS) (Heap.lt_size he) (let ⟨_, q, _⟩ := hit; Heap.lt_size q) hn res hR
  items.size 0 _ s.toks _ #[] [] rfl (Nat.zero_le _) (.inl ⟨old, eu _ _ (Ne.symm md) he⟩) (hit.at fun o q => eu it o (Ne.symm me) q) (hl.at fun o q => eu l o uG q) (fun b o h1 _ _ q => eu b o h1 q) Ac rfl rfl ⟨.nil, (fun _ h => nomatch h), fun j a h => by cases h⟩ (by rw [sz]; exact Nat.le_refl _)⟩
theorem QQ {Q : Value -> Shared -> Prop} (hh : A.handled = none) (old : Value) (he : IsEnum s.heap e it 0 old) (hit : s.heap.IsListIter it l 0) (hl : s.heap.IsList l items) (bW : e ≠ it) (hle : l ≠ e) (qS : l ≠ it) (hn : items.size <= sizeLine)
 (hQ : ∀ g tk acc c as, (∀ b o, b ≠ e -> b ≠ it -> s.heap.get? b = some o -> g.get? b = some o) -> g.get? s.heap.objs.size = some { cls := .type "list", dict := none, data := .seq acc c, slots := #[] } -> as.length = items.size -> gJ items (s.heap.objs.size + 1) g as ->
   acc.toList = as.map Value.ref -> Q (.ref s.heap.objs.size) { s with heap := g, toks := tk }) :
 wpAny (model prog w) A (call (.type "list") [.ref e]) Q E s := by
 have le : e < s.heap.objs.size := Heap.lt_size he
 have li : it < s.heap.objs.size := let ⟨_, q, _⟩ := hit; Heap.lt_size q
 have ll : l < s.heap.objs.size := let ⟨_, q, _⟩ := hl; Heap.lt_size q
 refine callType_codes (Q₁ := fun y s₁ => y = .ref s.heap.objs.size /\ s₁ = { s with heap := s.heap.push { cls := .type "list", data := .seq #[] } }) PySem.F.called_list (PySem.F.typeCall_list_1 _) PySem.F.entry_list_init (code_list_new _ ⟨rfl, rfl⟩) fun y s₁ h₁ => ?_
 obtain ⟨rfl, rfl⟩ := h₁
 have e0 : (s.heap.push { cls := .type "list", data := .seq #[] }).get? s.heap.objs.size = some { cls := .type "list", data := .seq #[] } := Heap.get?_push_size _ rfl
 refine ⟨⟨_, e0, rfl⟩, PySem.F.args_list_init_2 _ _, ?_⟩
 show wpAny _ A.in1.in1 (do let z <- Builtin.List.listItems (.ref s.heap.objs.size); Builtin.List.listUpdate (.ref s.heap.objs.size) (fun _ => #[]); letGo z.toList.reverse; Builtin.List.listExtendWith (.ref s.heap.objs.size) (.ref e) .none) _ _ _
 refine wpAny_bind ?_
 unfold Builtin.List.listItems
 refine wpAny_bind (wpAny_seqItems e0 rfl (wpAny_pure ?_))
 refine wpAny_bind (m := updateSeq s.heap.objs.size (fun _ => #[])) (wpAny_updateSeq e0 rfl ?_)
 have e1 := Heap.get?_update_self (Obj.mapSeq (fun _ => (#[] : Array Value))) e0 rfl
 have eu : ∀ b o, b ≠ s.heap.objs.size -> s.heap.get? b = some o -> ((s.heap.push { cls := .type "list", data := .seq #[] }).update s.heap.objs.size (Obj.mapSeq (fun _ => (#[] : Array Value)))).get? b = some o :=
  fun b o hb e => (Heap.get?_update_other _ _ (Ne.symm hb)).trans (Heap.get?_push_of_some _ e)
 have sz : ((s.heap.push { cls := .type "list", data := .seq #[] }).update s.heap.objs.size (Obj.mapSeq (fun _ => (#[] : Array Value)))).objs.size = s.heap.objs.size + 1 := by rw [(Heap.SameBut.update ..).1, size_push']
 refine wpAny_bind (wpAny_letGo ?_)
 exact QP (A := A.in1) hh old (eu e _ (Nat.ne_of_lt le) he) (hit.at fun o q => eu it o (Nat.ne_of_lt li) q) (hl.at fun o q => eu l o (Nat.ne_of_lt ll) q) bW hle qS s.heap.objs.size (Nat.ne_of_gt le) (Nat.ne_of_gt li) (Nat.ne_of_lt ll) .none _ e1 hn
  fun g tk acc c as hk hS iz hG gb => ⟨rfl, hQ g tk acc c as (fun b o h1 h2 q => hk b o (Nat.ne_of_lt (Heap.lt_size q)) h1 h2 (eu b o (Nat.ne_of_lt (Heap.lt_size q)) q)) hS iz (by rw [<- sz]; exact hG) gb⟩
end
section
variable {X : Cx} {pins : List (Addr × Obj)} {σ : L2.St} {H : Hp} {s : Shared}
theorem Inv.Iy {T : Addr} {o : HO} (I : Inv X pins σ H s) (hf : cp X pins H T) (new : bD X.prog X.w (upd H T o) s.heap T o) : Inv X pins σ (upd H T o) s := by
 have dE : ∀ b u, H b = some u -> b ≠ T := fun b u e => fb e hf.1
 have up : ∀ b u, H b = some u -> upd H T o b = some u := fun b u e => by rw [aH (dE b u e)]; exact e
 refine I.step (g' := s.gens) (t' := s.toks) (d' := s.drawn) (h' := s.heap) (ch := [T]) (fun b hb => ?_) (fun b o _ _ hc e _ => e) (fun b o _ _ hc e _ => ⟨o.slots, e⟩) (fun b u hc e n => by rw [aH (by simpa using hc)]; exact n)
  (fun b o hc e => ⟨o, e⟩) (fun b xs e => up b _ e) (fun b _ _ e => up b _ e) (fun b ps e => ⟨#[], by rw [up b _ e]; simp⟩) (fun m hm => hm) (fun b u e => ?_) I.bare
 ·obtain rfl : b = T := by simpa using hb
  obtain ⟨_, d1, d2, d3, d4, d5⟩ := hf
  exact ⟨d3, d1, d4, d5⟩
 ·by_cases hb : b = T
  ·subst hb; rw [aq] at e; cases e; exact new
  ·rw [aH hb] at e
   exact (I.ar b u e).dn (fun c v hc q => q) (fun c q => up c _ q) fun c xs q => up c _ q
theorem QR {T b : Addr} {o : HO} (h : cp X pins H b) (hb : b ≠ T) : cp X pins (upd H T o) b := ⟨by rw [aH hb]; exact h.1, h.2⟩
theorem Iz : ∀ (as : List Addr) (xs : List V) (us : List Value) (i : Nat) (H : Hp), Inv X pins σ H s -> Vals xs us -> as.length = xs.length -> as.Pairwise (· < ·) -> (∀ a ∈ as, cp X pins H a) ->
 (∀ j a u, as[j]? = some a -> us[j]? = some u -> ∃ t, s.heap.get? a = some { cls := .type "tuple", data := .seq #[.int ((i + j : Nat) : Int) t, u] }) ->
 ∃ H', aw H H' /\ Inv X pins σ H' s /\ (∀ b, b ∉ as -> H' b = H b) /\ ∀ j a x, as[j]? = some a -> xs[j]? = some x -> H' a = some (.tup [.int ((i + j : Nat) : Int), x])
 | [], [], us, i, H, I, r, hl, hp, hf, ht => ⟨H, fun _ _ e => e, I, fun _ _ => rfl, fun j a x h => by cases h⟩
 | [], _ :: _, us, i, H, I, r, hl, hp, hf, ht => by cases hl
 | _ :: _, [], us, i, H, I, r, hl, hp, hf, ht => by cases hl
 | a :: as, x :: xs, us, i, H, I, r, hl, hp, hf, ht => by
  cases us with
  | nil => cases r
  | cons u us =>
  cases r with
  | cons r rs =>
  obtain ⟨a9, cQ⟩ := List.pairwise_cons.mp hp
  have na : ∀ b ∈ as, b ≠ a := fun b hb => Nat.ne_of_gt (a9 b hb)
  obtain ⟨t, h0⟩ := ht 0 a u rfl rfl
  have I1 := Inv.Iy (o := .tup [.int ((i + 0 : Nat) : Int), x]) I (hf a (.head _)) ⟨zC, [.int ((i + 0 : Nat) : Int) t, u], .cons ⟨_, rfl⟩ (.cons r .nil), ⟨_, h0, rfl, _, rfl⟩⟩
  obtain ⟨H', s1, I2, k1, k2⟩ := Iz as xs us (i + 1) _ I1 rs (by simpa using hl) cQ (fun b hb => QR (hf b (.tail _ hb)) (na b hb)) fun j b v e1 e2 => by
   obtain ⟨t', q⟩ := ht (j + 1) b v e1 e2
   exact ⟨t', by rw [show i + 1 + j = i + (j + 1) by omega]; exact q⟩
  refine ⟨H', fun b v e => s1 b v (by rw [aH (fb e (hf a (.head _)).1)]; exact e), I2, fun b hb => ?_, fun j b y e1 e2 => ?_⟩
  ·rw [k1 b (fun z => hb (.tail _ z)), aH (fun z => hb (by rw [z]; exact .head _))]
  ·cases j with
   | zero =>
    cases e1
    cases e2
    rw [k1 a (fun z => na a z rfl), aq]
   | succ j =>
    have := k2 j b y e1 e2
    rw [show i + 1 + j = i + (j + 1) by omega] at this
    exact this
end
theorem IA : ∀ as : List Addr, Vals (as.map V.ref) (as.map Value.ref)
 | [] => .nil
 | _ :: as => .cons rfl (IA as)
noncomputable def qU (K : PySem.W.Frag) (ta : TA) : TE := fun σ H Q => ta σ H fun vs H1 => ∃ a xs, vs = [.ref a] /\ ah K H1 a xs /\ ∀ l ys H', aw H1 H' -> H1 l = none -> H' l = some (.lst ys) -> ys.length = xs.length ->
 (∀ j y x, ys[j]? = some y -> xs[j]? = some x -> ∃ p, y = .ref p /\ H1 p = none /\ H' p = some (.tup [.int (j : Nat), x])) -> Q (.ref l) H'
theorem QS {X : Cx} {e : Expr} {ta : TA} {p p2 pos qV : Pos} (hc : X.calm = true) (hg : Gl X "list") (hm : X.mg "list" = none) (QT : Gl X "enumerate") (uH : X.mg "enumerate" = none) (ha : PA X [e] ta)
 (hs : starEach [.Call (.Name "enumerate" p2) [e] [] qV] X.env = [(false, eval (.Call (.Name "enumerate" p2) [e] [] qV) X.env)] := by rfl) (cH : starEach [e] X.env = [(false, eval e X.env)] := by rfl) :
 PE X (.Call (.Name "list" p) [.Call (.Name "enumerate" p2) [e] [] qV] [] pos) (qU X.K ta) := by
 intro pins s σ H Q I h
 refine Call_ (dX I hg hm y4 (PyProof.Rows.callWith_type1 ?_ hs rfl))
 rw [hs]
 show wpAny _ _ (spliced ((false, eval (.Call (.Name "enumerate" p2) [e] [] qV) X.env) :: backTo pos [])) _ _ s
 refine Calls.spliced_cons (Call_ (dX I QT uH GK (PyProof.Rows.callWith_type1 (aB (ha qV pins s σ H _ I h) fun us s1 ⟨vs, H1, I1, r1, q1⟩ => ?_) cH rfl)))
 obtain ⟨a, xs, rfl, hq, q⟩ := q1
 obtain ⟨u, rfl, ru⟩ := vals1 r1
 cases ru
 obtain ⟨ag, rv, pl, hz⟩ := I1.list hq
 refine call_enumerate_list pl.isList fun h' he hit b7 hk => ?_
 refine Calls.spliced_nil ?_
 have la : a < s1.heap.objs.size := let ⟨_, e, _⟩ := pl.isList; Heap.lt_size e
 refine QQ (s := { s1 with heap := h' }) (l := a) (items := ag.toArray) (I1.ok.hd hc) .none he hit (pl.isList.at fun o e => hk a o e) (Nat.succ_ne_self _) (Nat.ne_of_lt (Nat.lt_succ_of_lt la)) (Nat.ne_of_lt la) (by rw [List.size_toArray, <- rv.length]; exact hz) fun g tk acc c as ky hD iz hG gb => ?_
 have up : ∀ b o, s1.heap.get? b = some o -> g.get? b = some o := fun b o e => ky b o (Nat.ne_of_lt (Nat.lt_succ_of_lt (Heap.lt_size e))) (Nat.ne_of_lt (Heap.lt_size e)) (hk b o e)
 have I2 : Inv X pins σ H1 { s1 with heap := g, toks := tk } := I1.kept (t' := tk) up
 have Ad : ∀ b ∈ as, s1.heap.objs.size <= b := fun b hb => by
  have := hG.above b hb
  have e : ({ s1 with heap := h' } : Shared).heap.objs.size = s1.heap.objs.size + 2 := b7
  walk_at "om"
 obtain ⟨H', s2, I3, k1, k2⟩ := Iz as xs ag 0 H1 I2 rv (by rw [iz, List.size_toArray]; exact rv.length.symm) hG.rise (fun b hb => I1.d9 (Ad b hb) (I1.ar.fresh (Ad b hb))) fun j b v e1 e2 => by
  obtain ⟨t, x, e3, e4⟩ := hG.pairs j b e1
  have : x = v := by simpa [e2] using e3.symm
  subst this
  exact ⟨t, by rw [Nat.zero_add]; exact e4⟩
 have hl : s1.heap.objs.size <= h'.objs.size := by rw [b7]; exact Nat.le_add_right _ _
 have nl : h'.objs.size ∉ as := fun z => absurd (hG.above _ z) (Nat.not_succ_le_self _)
 have f0 := I1.ar.fresh hl
 have IB : as.length = xs.length := by rw [iz, List.size_toArray]; exact rv.length.symm
 refine ⟨.ref h'.objs.size, upd H' h'.objs.size (.lst (as.map V.ref)), Inv.Iy I3 (I1.d9 hl (by rw [k1 _ nl]; exact f0)) ⟨by rw [List.length_map, IB]; exact hz, acc.toList, c, ?_, by rw [Array.toArray_toList]; exact hD⟩, rfl, q _ (as.map V.ref) _ (fun b v e => ?_) f0 (aq ..) (by rw [List.length_map, IB]) fun j y x e1 e2 => ?_⟩
 ·rw [gb]
  exact IA as
 ·rw [aH (fb e f0)]; exact s2 b v e
 ·rw [List.getElem?_map] at e1
  obtain ⟨b, hb, rfl⟩ := Option.map_eq_some_iff.mp e1
  have hm := List.mem_of_getElem? hb
  refine ⟨b, rfl, I1.ar.fresh (Ad b hm), ?_⟩
  rw [aH (fun z => nl (by rw [<- z]; exact hm))]
  have := k2 j b x hb e2
  rw [Nat.zero_add] at this
  exact this
end Gz
namespace Gz
open PySem PySem.Spec PyProof.Rows L2
theorem QU : Manifest.owners.lookup (String.ofList ['r', 'o', 't', 'a', 'r', 'e', 't', 'i', '_', 't', 'e', 's'].reverse) = some Manifest.sig_set_iterator := by kernel_rfl
theorem Ae : Slot "set_iterator" "__next__" "set_iterator.__next__" :=
 .of (owner := "set_iterator") (n := "__next__") (by rw [typeLookup_type, builtinLookup_eq_fast]; kernel_rfl) (by decide +kernel) (by decide +kernel) (by decide +kernel)
  (by first | exact .inl (by decide +kernel) | exact .inr (by decide +kernel)) (by rw [isSubtype_type]; kernel_rfl)
theorem QV : entryFor table "set_iterator.__next__" = some Builtin.«set_iterator.__next__» := entryFor_of_tree (by kernel_rfl)
theorem QW (a : Value) : argsOk "set_iterator.__next__" ⟨[a], []⟩ := by
 unfold argsOk; rw [signature?_of (id := "set_iterator.__next__") (n := ['_', '_', 't', 'x', 'e', 'n', '_', '_']) (o := ['r', 'o', 't', 'a', 'r', 'e', 't', 'i', '_', 't', 'e', 's']) (by kernel_rfl) QU]; kernel_rfl
theorem QX : entryFor table "set.__iter__" = some Builtin.«frozenset.__iter__» :=
 entryFor_alias (id' := "frozenset.__iter__") (by kernel_rfl) (by first | rfl | decide +kernel) (by decide +kernel) (by kernel_rfl)
noncomputable def fE (h : Heap) (d : Addr) (ep : Nat) (t : SetTable) : Prop := ∃ o, h.get? d = some o /\ o.cls = .type "set" /\ o.data = .set #[] ep t /\ t.fits 0 = true
noncomputable abbrev IC (h : Heap) (I d : Addr) (ep : Nat) : Prop :=
 h.get? I = some { cls := .type "set_iterator", dict := none, data := .fields #[rawInt 0, rawInt 0, .ref d, rawInt 0, rawInt ep], slots := #[] }
section
variable {prog : Program} {w : World} {A : Around} {E : Value -> Shared -> Prop} {s : Shared} {d I : Addr} {ep : Nat} {t : SetTable}
theorem fE.typeIs (h : fE s.heap d ep t) : s.TypeIs (.ref d) "set" := let ⟨o, a, b, _⟩ := h; ⟨o, a, b⟩
theorem QY {Q : Bool -> Shared -> Prop} (h : fE s.heap d ep t) (q : Q false s) : wpAny (model prog w) A (setDrawn d) Q E s := by
 obtain ⟨o, h1, h2, h3, h4⟩ := h
 unfold setDrawn setsByText
 refine wpAny_bind (wpAny_setState_of h1 h3 h4 ?_)
 dsimp only
 refine wpAny_bind (wpAny_bind (wpAny_askSetting (wpAny_pure (wpAny_pure ?_))))
 refine cast (congrArg (fun b => Q b s) ?_) q
 symm
 rw [Bool.and_eq_false_iff]
 right
 obtain ⟨a, b, c, d, e, f, pl⟩ := t
 cases pl <;> rfl
theorem QZ {Q : Value -> Shared -> Prop} (h : fE s.heap d ep t)
 (hQ : Q (.ref s.heap.objs.size) { s with heap := s.heap.push { cls := .type "set_iterator", data := .fields #[rawInt 0, rawInt 0, .ref d, rawInt 0, rawInt ep] } }) : wpAny (model prog w) A (pyIter (.ref d)) Q E s := by
 have hT := h.typeIs
 obtain ⟨o, h1, h2, h3, h4⟩ := id h
 refine wpAny_pyIter_slot hT F.slot_set_iter (wpAny_call_entry F.slot_set_iter hT QX ?_ (F.args_set_iter_1 _))
 unfold Builtin.«frozenset.__iter__»
 refine wpAny_bind (m := Builtin.Frozenset.slot0 _ _) (wpAny_pure ?_)
 refine wpAny_bind (m := Builtin.Frozenset.sizeOf _) (wpAny_bind (wpAny_setEntries_of h1 h3 h4 (wpAny_pure ?_)))
 refine wpAny_bind (QY h ?_)
 simp only [Bool.false_eq_true, if_false]
 refine wpAny_bind (wpAny_pure ?_)
 refine wpAny_bind (wpAny_setEpoch_of h1 h3 h4 ?_)
 refine wpAny_bind (wpAny_newObj_type (wpAny_pure ⟨_, rfl, "set_iterator", _, ⟨_, Heap.get?_push_size _ rfl, rfl⟩, Ae.lookup, ?_⟩))
 exact hQ
theorem Q0 {Q : Array (Int × Value) -> Shared -> Prop} (h : fE s.heap d ep t) (q : Q #[] s) : wpAny (model prog w) A (setWalk d) Q E s := by
 obtain ⟨o, h1, h2, h3, h4⟩ := h
 unfold setWalk setsByText
 refine wpAny_bind (wpAny_setState_of h1 h3 h4 ?_)
 dsimp only
 refine wpAny_bind (wpAny_bind (wpAny_askSetting (wpAny_pure ?_)))
 refine wpAny_ite_split (fun _ => ?_) (fun _ => ?_)
 ·exact wpAny_bind (wpAny_askSetting (wpAny_pure q))
 ·refine wpAny_ite_split (fun z => ?_) (fun _ => ?_)
  ·obtain ⟨a, b, c, d, e, f, pl⟩ := t
   cases pl <;> cases z
  ·obtain ⟨a, b, c, d, led, f, pl⟩ := t
   refine wpAny_bind ?_
   cases led
   ·show wpAny _ _ (pure ()) _ _ _
    exact wpAny_pure (wpAny_pure q)
   ·show wpAny _ _ (pure ()) _ _ _
    exact wpAny_pure (wpAny_pure q)
theorem Q2 {k i : Nat} {Q : Option (Value × Nat) -> Shared -> Prop} (h : fE s.heap d ep t) (q : Q none s) : wpAny (model prog w) A (setNext d k i ep) Q E s := by
 obtain ⟨o, h1, h2, h3, h4⟩ := id h
 unfold setNext setsByText
 refine wpAny_bind (wpAny_setState_of h1 h3 h4 ?_)
 dsimp only
 refine wpAny_bind (wpAny_bind (wpAny_askSetting (wpAny_pure ?_)))
 refine wpAny_ite_split (fun _ => ?_) (fun _ => ?_)
 ·refine wpAny_ite_split (fun z => absurd z (by simp)) (fun _ => ?_)
  exact wpAny_bind (Q0 h (wpAny_pure q))
 ·refine wpAny_ite_split (fun z => ?_) (fun _ => ?_)
  ·obtain ⟨a, b, c, d, e, f, pl⟩ := t
   cases pl <;> cases z
  ·obtain ⟨a, b, c, d, led, f, pl⟩ := t
   refine wpAny_bind ?_
   cases led
   ·show wpAny _ _ (pure ()) _ _ _
    exact wpAny_pure (wpAny_pure q)
   ·show wpAny _ _ (pure ()) _ _ _
    exact wpAny_pure (wpAny_pure q)
theorem Q3 {Q : Option Value -> Shared -> Prop} (hh : A.handled = none) (hI : IC s.heap I d ep) (h : fE s.heap d ep t)
 (hQ : ∀ h', Heap.ExtBut I s.heap h' -> Q none { s with heap := h' }) : wpAny (model prog w) A (pyNext (.ref I)) Q E s := by
 have hT : s.TypeIs (.ref I) "set_iterator" := ⟨_, hI, rfl⟩
 obtain ⟨o, h1, h2, h3, h4⟩ := id h
 unfold pyNext
 refine wpAny_bind (wpAny_attempt (wpAny_callSpecial?_slot (name := Str.ofString "__next__") hT Ae
  (wpAny_call_entry Ae hT QV ?_ (QW _))))
 unfold Builtin.«set_iterator.__next__»
 refine wpAny_bind (wpAny_pure ?_)
 refine wpAny_bind (wpAny_fieldsOf hI rfl ?_)
 show wpAny _ _ (setEntries d >>= _) _ _ _
 refine wpAny_bind (wpAny_setEntries_of h1 h3 h4 ?_)
 refine wpAny_ite_split (fun z => absurd z (by decide)) (fun _ => ?_)
 show wpAny _ _ (setNext d 0 0 (Int.toNat (ep : Int)) >>= _) _ _ _
 rw [Int.toNat_natCast]
 refine wpAny_bind (Q2 h ?_)
 show wpAny _ _ (setField (.ref I) 2 .none >>= _) _ _ s
 refine wpAny_bind (wpAny_setField hI rfl (by simp) ?_)
 show wpAny _ _ (newExc (.type "StopIteration") [] >>= _) _ _ _
 refine wpAny_bind ?_
 simp only [newExc, newTuple]
 refine wpAny_bind (wpAny_newObj_type ?_ (by size_fits))
 refine wpAny_bind (m := firstArgMember _ _) (wpAny_of_eq (a := Value.none) (by first | rfl | (simp only [firstArgMember]; rfl)) ?_)
 refine wpAny_newObj_type ?_ (by size_fits)
 simp only [raiseNew]
 refine wpAny_bind (wpAny_handled ?_)
 rw [show A.in1.handled = none from hh]
 refine wpAny_bind (wpAny_pure (wpAny_throw ?_))
 refine wpAny_bind (wpAny_isInstance (T := "StopIteration") (b := true) ⟨_, Heap.get?_push_size _ rfl, rfl⟩ isSubtype_stop ?_)
 exact wpAny_pure (hQ _ (((Heap.SameBut.update ..).extBut.push _).push _))
theorem Q4 {Q : Bool -> Shared -> Prop} (hT : s.TypeIs (.ref d) "set") (q : Q false s) : wpAny (model prog w) A (Builtin.List.listLengthHint (.ref d)) Q E s := by
 unfold Builtin.List.listLengthHint
 refine wpAny_bind (wpAny_specialOf hT PySem.F.slot_set_len.lookup ?_)
 generalize hid : ("set.__len__" : String) = Q5
 wp_delta
 rw [show splitId Q5 = some ("set", "__len__") from by subst hid; decide +kernel]
 subst hid
 refine wpAny_bind (wpAny_isInstance (T := "set") (b := true) hT (by rw [isSubtype_type]; kernel_rfl) ?_)
 refine wpAny_ite_split (fun hV => absurd hV (by decide)) (fun _ => ?_)
 refine wpAny_ite_split (fun _ => ?_) (fun hV => absurd (by decide +kernel) hV)
 refine wpAny_bind (wpAny_typeOf hT ?_)
 exact wpAny_pure q
theorem Q6 {R : Result -> Shared -> Prop} (hh : A.handled = none) (h : fE s.heap d ep t) (S : Addr) (ID : S ≠ d) (res : Value) (c₀ : Nat) (hS : s.heap.get? S = some { cls := .type "list", data := .seq #[] c₀ })
 (hR : ∀ h' c', (∀ b o, b ≠ S -> s.heap.get? b = some o -> h'.get? b = some o) -> h'.get? S = some { cls := .type "list", dict := none, data := .seq #[] c', slots := #[] } -> R (.ok (.ret res)) { s with heap := h' }) :
 wpAny (model prog w) A.in1 (Builtin.List.listExtendWith (.ref S) (.ref d) res)
  (fun fin s' => match fin with | .done f => R (.ok f) s' | .again c' => c'.quiet = true /\ codeAny (model prog w) A c' R s') (fun e s' => R (.error e) s') s := by
 have IE : S ≠ s.heap.objs.size := Nat.ne_of_lt (Heap.lt_size hS)
 have h1 : Builtin.List.listSameRef (.ref S) (.ref d) = false := by simp [Builtin.List.listSameRef, ID]
 have h2 : (Value.type "set" == Value.type "list") = false := by decide
 have h3 : (Value.type "set" == Value.type "tuple") = false := by decide
 unfold Builtin.List.listExtendWith
 refine wpAny_bind (wpAny_typeOf (T := "set") h.typeIs ?_)
 simp only [h1, h2, h3, Bool.or_false, Bool.false_eq_true, if_false]
 refine wpAny_bind (QZ h ?_)
 have hp : fE (s.heap.push { cls := .type "set_iterator", data := .fields #[rawInt 0, rawInt 0, .ref d, rawInt 0, rawInt ep] }) d ep t := let ⟨o, a, b⟩ := h; ⟨o, Heap.get?_push_of_some _ a, b⟩
 refine wpAny_bind (wpAny_holding (Q4 hp.typeIs ?_))
 have key : ∀ (g : Heap) (c₁ : Nat), IC g s.heap.objs.size d ep -> fE g d ep t -> (∀ b o, b ≠ S -> s.heap.get? b = some o -> g.get? b = some o) -> g.get? S = some { cls := .type "list", data := .seq #[] c₁ } ->
  codeAny (model prog w) A (.builtin "list.extend.loop" ⟨[.ref S, .ref s.heap.objs.size, res], []⟩) R { s with heap := g } := by
  intro g c₁ hI hd hk qW
  refine codeAny_builtin PySem.F.entry_extend_loop ?_
  rw [Around.under_plainId PySem.F.plain_extend_loop _]
  show wpAny _ A.in1 (pyNext (.ref s.heap.objs.size) >>= _) _ _ _
  refine wpAny_bind (Q3 (s := { s with heap := g }) (A := A.in1) hh hI hd fun h' he => ?_)
  exact wpAny_pure (hR h' c₁ (fun b o hb q => he b o (Nat.ne_of_lt (Heap.lt_size q)) (hk b o hb q)) (he S _ IE qW))
 have qW := Heap.get?_push_of_some { cls := .type "set_iterator", data := .fields #[rawInt 0, rawInt 0, .ref d, rawInt 0, rawInt ep] } hS
 refine wpAny_ite_split (fun _ => ?_) (fun _ => wpAny_pure ⟨plainId_quiet PySem.F.plain_extend_loop _, key _ c₀ (Heap.get?_push_size _ rfl) hp (fun b o _ e => Heap.get?_push_of_some _ e) qW⟩)
 refine wpAny_bind (wpAny_rule ?_)
 refine wpAny_bind ?_
 show wpAny _ _ (updateSeq S (·.push .none) >>= fun _ => updateSeq S (·.pop)) _ _ _
 refine wpAny_bind (wpAny_updateSeq qW rfl ?_)
 have qT := Heap.get?_update_self (Obj.mapSeq (·.push Value.none)) qW rfl
 refine wpAny_updateSeq (hz := by seq_fits) qT rfl ?_
 have Ac := Heap.get?_update_self (Obj.mapSeq (·.pop)) qT rfl
 have eu := fun b (o : Obj) (hb : b ≠ S) (e : (s.heap.push { cls := .type "set_iterator", data := .fields #[rawInt 0, rawInt 0, .ref d, rawInt 0, rawInt ep] }).get? b = some o) => (Heap.get?_update_other _ (Obj.mapSeq (·.pop)) (Ne.symm hb)).trans ((Heap.get?_update_other _ (Obj.mapSeq (·.push Value.none)) (Ne.symm hb)).trans e)
 exact wpAny_pure ⟨plainId_quiet PySem.F.plain_extend_loop _, key _ _ (eu _ _ (Ne.symm IE) (Heap.get?_push_size _ rfl)) (let ⟨o, a, b⟩ := hp; ⟨o, eu _ _ (Ne.symm ID) a, b⟩) (fun b o hb e => eu b o hb (Heap.get?_push_of_some _ e)) Ac⟩
theorem Q7 {R : List Value -> Shared -> Prop} (ha : A.handled = none) (h : fE s.heap d ep t)
 (k : ∀ g : Heap, s.heap.objs.size < g.objs.size -> (∀ b o, s.heap.get? b = some o -> g.get? b = some o) -> R [] { s with heap := g }) :
 wpAny (model prog w) A (collect (.ref d)) R E s := by
 have ld : d < s.heap.objs.size := let ⟨_, a, _⟩ := h; Heap.lt_size a
 have e0 : (s.heap.push { cls := .type "list", data := .seq ([] : List Value).toArray }).get? s.heap.objs.size = some { cls := .type "list", data := .seq #[] } := Heap.get?_push_size _ rfl
 have key := Q6 (prog := prog) (w := w) (A := A) (s := { s with heap := s.heap.push { cls := .type "list", data := .seq ([] : List Value).toArray } })
  (R := fun (q : Result) (u : Shared) => ∃ (g : Heap) (c : Nat), q = .ok (.ret (.ref s.heap.objs.size)) /\ u = { s with heap := g } /\ (∀ b o, s.heap.get? b = some o -> g.get? b = some o) /\
    g.get? s.heap.objs.size = some { cls := .type "list", dict := none, data := .seq #[] c, slots := #[] })
  ha (let ⟨o, a, b⟩ := h; ⟨o, Heap.get?_push_of_some _ a, b⟩) s.heap.objs.size (Nat.ne_of_gt ld) (.ref s.heap.objs.size) 0 e0
  (fun g c hk hS => ⟨g, c, rfl, rfl, fun b o e => hk b o (Nat.ne_of_lt (Heap.lt_size e)) (Heap.get?_push_of_some _ e), hS⟩)
 unfold collect
 refine wpAny_bind (wpAny_runValue (codeAny_builtin entry_proto_collect' ?_)); rw [Around.under_plainId PySem.F.plain_proto_collect _]
 show wpAny _ A.in1 (newList [] >>= fun z => again (.builtin "list.__iadd__" ⟨[z, .ref d], []⟩)) _ _ s
 refine wpAny_bind (wpAny_newObj_type (wpAny_pure ⟨plainId_quiet PySem.F.plain_list_iadd _, codeAny_builtin entry_list_iadd' ?_⟩)); rw [Around.under_plainId PySem.F.plain_list_iadd _]
 show wpAny _ A.in1 (Builtin.List.listExtendWith (.ref s.heap.objs.size) (.ref d) (.ref s.heap.objs.size)) _ _ _; refine wpAny_mono key (fun f u x => ?_) fun e u x => ?_
 ·cases f with
  | done f =>
   obtain ⟨g, c, e, rfl, hk, hS⟩ := x
   cases e
   show wpAny _ A (load s.heap.objs.size >>= _) _ _ _
   exact wpAny_bind (wpAny_load hS (wpAny_pure (k g (Heap.lt_size hS) hk)))
  | again c1 =>
   refine ⟨x.1, codeAny_mono x.2 fun q u y => ?_⟩
   obtain ⟨g, c, rfl, rfl, hk, hS⟩ := y
   show wpAny _ A (load s.heap.objs.size >>= _) _ _ _
   exact wpAny_bind (wpAny_load hS (wpAny_pure (k g (Heap.lt_size hS) hk)))
 ·obtain ⟨_, _, z, _⟩ := x
  cases z
end
section
variable {X : Cx}
theorem Q8 : bootBuiltins "set" = some (.type "set") := by decide +kernel
theorem Q9 (hc : X.calm = true) : ed X (.type "set") (fun xs H Q => ∃ a, xs = [.ref a] /\ ah X.K H a [] /\ ∀ d, H d = none -> Q (.ref d) (upd H d (.set (fun _ => false) 0))) := by
 intro pins s σ H xs us Q I r h
 obtain ⟨a, rfl, hq, q⟩ := h
 obtain ⟨u, rfl, ru⟩ := vals1 r
 cases ru
 obtain ⟨ag, rv, pl, hz⟩ := I.list hq
 obtain rfl : ag = [] := by cases rv; rfl
 refine PySem.call_set_list (items := #[]) (ns := []) (I.ok.hd hc) pl.isList .nil (by decide) fun h' tk hS hk => ?_
 exact ⟨.ref _, _, I.laid (t' := tk) (o := .set (fun _ => false) 0) (fun b o e => hk b o (Heap.lt_size e) e) (Nat.le_refl _) hS, rfl, q _ (I.ar.fresh (Nat.le_refl _))⟩
theorem Ra (hc : X.calm = true) : ed X (.builtin "sorted") (fun xs H Q => ∃ d, xs = [.ref d] /\ H d = some (.set (fun _ => false) 0) /\ ∀ l, H l = none -> Q (.ref l) (upd H l (.lst []))) := by
 intro pins s σ H xs us Q I r h
 obtain ⟨d, rfl, hd, q⟩ := h
 obtain ⟨u, rfl, ru⟩ := vals1 r
 cases ru
 obtain ⟨o, es, ep, t, k1, ⟨k2, _⟩, k3, _, _, _, k4, k5⟩ := (show s.heap.SetOf (intKind X.prog X.w) d (fun _ => false) 0 from I.ar d _ hd)
 obtain rfl : es = #[] := Array.eq_empty_of_size_eq_zero k5
 refine Calls.call_function_entry kind_sorted plain_sorted entry_sorted (args_sorted1 _) ?_
 unfold Builtin.«sorted»
 refine wpAny_bind (m := checkCount "sorted" 1 1 _) (wpAny_pure ?_)
 refine wpAny_bind (Q7 (A := X.A.in1) (t := t) (ep := ep) (I.ok.hd hc) ⟨o, k1, k2, k3, k4⟩ fun h' Af hk => ?_)
 refine wpAny_bind (wpAny_newList ?_ (Nat.zero_le _))
 have fK : (h'.push (seqObj "list" ([] : List Value).toArray 0)).get? h'.objs.size = some (seqObj "list" ([] : List Value).toArray 0) := Heap.get?_push_size _ rfl
 have b7 : s.heap.objs.size <= h'.objs.size := Nat.le_of_lt Af
 refine wpAny_bind (wpAny_holding (wpAny_call_entry slot_list_sort ⟨_, fK, rfl⟩ entry_list_sort (list_sort_tree (vs := []) (ns := []) (n := 0) fK .nil (by decide) fun out Ag b1 b2 b3 => ⟨_, rfl, ?_⟩) (args_list_sort _)))
 obtain rfl : Ag = [] := b2.eq_nil
 obtain rfl : out = #[] := by
  obtain ⟨l⟩ := out
  cases l with
  | nil => rfl
  | cons => cases b1
 obtain ⟨e, he⟩ := sortedHeap_at (out := #[]) fK
 refine wpAny_pure ⟨_, rfl, ?_⟩
 refine ⟨.ref h'.objs.size, _, I.laid (t' := s.toks) (o := .lst []) (fun b o q => ?_) b7 ⟨Nat.zero_le _, [], e, .nil, he⟩, rfl, q _ (I.ar.fresh b7)⟩
 have hb := hk _ _ q
 have a9 := Heap.lt_size hb
 rw [sortedHeap_old (Nat.ne_of_lt a9) (by rw [size_push']; exact Nat.lt_succ_of_lt a9)]
 exact Heap.get?_push_of_some _ hb
theorem Rb (hc : X.calm = true) : ed X (.builtin "sorted") (fun xs H Q => ∃ d, xs = [.ref d] /\ H d = some (.dT []) /\ ∀ l, H l = none -> Q (.ref l) (upd H l (.lst []))) := by
 intro pins s σ H xs us Q I r h
 obtain ⟨d, rfl, hd, q⟩ := h
 obtain ⟨u, rfl, ru⟩ := vals1 r
 cases ru
 obtain ⟨_, lo, vs, rel, o, es, ep, h1, h2, h3, h4, h5⟩ := (show bD X.prog X.w H s.heap d (.dT []) from I.ar d _ hd)
 obtain rfl : vs = [] := by cases rel; rfl
 obtain rfl : es = #[] := Array.toList_eq_nil_iff.mp h4
 have Ah : s.heap.DictAt (gO X.prog X.w) d [] ep := ⟨o, #[], h1, h2, h3, (by intro e he; simp at he), .nil, List.nodup_nil⟩
 refine Calls.call_function_entry kind_sorted plain_sorted entry_sorted (args_sorted1 _) ?_
 unfold Builtin.«sorted»
 refine wpAny_bind (m := checkCount "sorted" 1 1 _) (wpAny_pure ?_)
 refine wpAny_bind (PK (A := X.A.in1) (PySem.W.kdl_dict (knd := gO _ _) (kvs := []) (ep := ep) lo) (I.ok.hd hc) Ah (Nat.zero_le _) fun h' tk acc Af hk gb => ?_)
 obtain rfl : acc = #[] := Array.eq_empty_of_size_eq_zero gb.1
 refine wpAny_bind (wpAny_newList ?_ (Nat.zero_le _))
 have fK : (h'.push (seqObj "list" ([] : List Value).toArray 0)).get? h'.objs.size = some (seqObj "list" ([] : List Value).toArray 0) := Heap.get?_push_size _ rfl
 have b7 : s.heap.objs.size <= h'.objs.size := Nat.le_of_lt Af
 refine wpAny_bind (wpAny_holding (wpAny_call_entry slot_list_sort ⟨_, fK, rfl⟩ entry_list_sort (list_sort_tree (vs := []) (ns := []) (n := 0) fK .nil (by decide) fun out Ag b1 b2 b3 => ⟨_, rfl, ?_⟩) (args_list_sort _)))
 obtain rfl : Ag = [] := b2.eq_nil
 obtain rfl : out = #[] := by
  obtain ⟨l⟩ := out
  cases l with
  | nil => rfl
  | cons => cases b1
 obtain ⟨e, he⟩ := sortedHeap_at (out := #[]) fK
 refine wpAny_pure ⟨_, rfl, ?_⟩
 refine ⟨.ref h'.objs.size, _, I.laid (t' := tk) (o := .lst []) (fun b o q => ?_) b7 ⟨Nat.zero_le _, [], e, .nil, he⟩, rfl, q _ (I.ar.fresh b7)⟩
 have hb := hk _ _ q
 have a9 := Heap.lt_size hb
 rw [sortedHeap_old (Nat.ne_of_lt a9) (by rw [size_push']; exact Nat.lt_succ_of_lt a9)]
 exact Heap.get?_push_of_some _ hb
end
end Gz
namespace Gz
open PySem PySem.Spec PyProof.Rows L2
local macro_rules | `(tactic| walk_at "om") => `(tactic| ((try simp only [PySem.Addr] at *); omega))
section
variable {X : Cx} {pins : List (Addr × Obj)} {σ : L2.St} {H : Hp} {s : Shared} {a : Addr} {kvs : List (List Key × V)} {o : Obj} {u u' : HO}
noncomputable def Loose : HO -> Prop
 | .dT _ => True
 | .bj _ (.dT _) => True
 | _ => False
theorem IF (I : Inv X pins σ H s) (e : H a = some u) (lu : Loose u) (h0 : ∀ o v, X.H₀ a ≠ some (.bj o v)) (new : bD X.prog X.w (upd H a u') s.heap a u') : Inv X pins σ (upd H a u') s := by
 have nn : ∀ b, H b = none -> b ≠ a := fun b h z => by rw [z, e] at h; cases h
 have nt : ∀ b xs, H b = some (.tup xs) -> b ≠ a := fun b xs h z => by rw [z, e] at h; cases h; exact lu
 have no : ∀ b x, H b = some (.own x) -> b ≠ a := fun b x h z => by rw [z, e] at h; cases h; exact lu
 have nb : ∀ b ps, H b = some (.tbl ps) -> b ≠ a := fun b ps h z => by rw [z, e] at h; cases h; exact lu
 refine ⟨I.ok, I.os, I.bare, ⟨I.base.keep, I.base.slot, fun b o e1 n hx => ?_, I.base.there, fun b xs e1 => ?_, fun b o v e1 => ?_, fun b ps e1 => ?_⟩, I.loc, I.cell, ?_, fun x c e1 => ?_, fun p hp => ?_, fun b ob e1 => ?_, I.len⟩
 ·have := I.base.free b o e1 n hx
  rw [aH (nn b this)]; exact this
 ·have := I.base.cb b xs e1
  rw [aH (nt b xs this)]; exact this
 ·have := I.base.cc b o v e1
  rw [aH (show b ≠ a from fun z => h0 o v (by rw [<- z]; exact e1))]; exact this
 ·obtain ⟨more, this⟩ := I.base.cB b ps e1
  exact ⟨more, by rw [aH (nb b _ this)]; exact this⟩
 ·rw [aH (nn _ I.free)]; exact I.free
 ·have := I.cS x c e1
  rw [aH (nn c this)]; exact this
 ·obtain ⟨p1, p2, p3⟩ := I.pin p hp
  exact ⟨p1, by rw [aH (nn _ p2)]; exact p2, p3⟩
 ·by_cases hb : b = a
  ·subst hb
   rw [aq] at e1
   cases e1
   exact new
  ·rw [aH hb] at e1
   exact (I.ar b ob e1).dn (fun _ _ _ q => q) (fun c h => by rw [aH (no c _ h)]; exact h) fun c xs h => by rw [aH (nt c xs h)]; exact h
theorem Rc (I : Inv X pins σ H s) (e : H a = some (.dT kvs)) : ∃ o, Inv X pins σ (upd H a (.bj o (.dT kvs))) s /\ ∀ o v, X.H₀ a ≠ some (.bj o v) := by
 have h0 : ∀ o v, X.H₀ a ≠ some (.bj o v) := fun o v z => by
  have := I.base.cc a o v z
  rw [e] at this; cases this
 have ok := I.ar a _ e
 obtain ⟨_, _, _, _, o, _, _, ho, _⟩ := id ok
 refine ⟨o, IF I e trivial h0 ⟨ho, ok.dn (fun _ _ _ q => q) (fun c h => ?_) fun c xs h => ?_⟩, h0⟩
 ·rw [aH fun z => by rw [z, e] at h; cases h]; exact h
 ·rw [aH fun z => by rw [z, e] at h; cases h]; exact h
theorem uI (I : Inv X pins σ H s) (e : H a = some (.bj o (.dT kvs))) (h0 : ∀ o v, X.H₀ a ≠ some (.bj o v)) : Inv X pins σ (upd H a (.dT kvs)) s := by
 obtain ⟨_, ok⟩ := I.ar a _ e
 refine IF I e trivial h0 (ok.dn (fun _ _ _ q => q) (fun c h => ?_) fun c xs h => ?_)
 ·rw [aH fun z => by rw [z, e] at h; cases h]; exact h
 ·rw [aH fun z => by rw [z, e] at h; cases h]; exact h
noncomputable def qX (a : Addr) (o : Obj) (kvs : List (List Key × V)) (D : Ends) : Ends where
 nx := fun σ H => H a = some (.bj o (.dT kvs)) /\ D.nx σ (upd H a (.dT kvs))
 rt := fun v H => H a = some (.bj o (.dT kvs)) /\ D.rt v (upd H a (.dT kvs))
 bk := fun σ H => H a = some (.bj o (.dT kvs)) /\ D.bk σ (upd H a (.dT kvs))
 ct := fun σ H => H a = some (.bj o (.dT kvs)) /\ D.ct σ (upd H a (.dT kvs))
noncomputable def qY (t : TS) : TS := fun D σ H => ∃ a kvs, H a = some (.dT kvs) /\ ∀ o, t (qX a o kvs D) σ (upd H a (.bj o (.dT kvs)))
theorem Rf {st : Stmt} {t : TS} (h : PS X st t) : PS X st (qY t) := by
 rintro pins s σ H D I ⟨a, kvs, e, q⟩
 obtain ⟨o, I1, h0⟩ := Rc I e
 refine aB (h pins s σ _ _ I1 (q o)) fun f s' hf => ?_
 cases f with
 | next => obtain ⟨σ', H', I', e', q'⟩ := hf; exact ⟨σ', _, uI I' e' h0, q'⟩
 | brk => obtain ⟨σ', H', I', e', q'⟩ := hf; exact ⟨σ', _, uI I' e' h0, q'⟩
 | cont => obtain ⟨σ', H', I', e', q'⟩ := hf; exact ⟨σ', _, uI I' e' h0, q'⟩
 | ret v => obtain ⟨v', σ', H', I', r', e', q'⟩ := hf; exact ⟨v', σ', _, uI I' e' h0, r', q'⟩
noncomputable def uJ (t : TE) : TE := fun σ H Q => ∃ a kvs, H a = some (.dT kvs) /\ ∀ o, t σ (upd H a (.bj o (.dT kvs))) fun v H' => H' a = some (.bj o (.dT kvs)) /\ Q v (upd H' a (.dT kvs))
noncomputable def gd (o : Obj) : List V := match o.data with
 | .dict es _ => es.toList.map fun e => match e.key with
  | .ref a => V.ref a
  | _ => V.non
 | _ => []
noncomputable def uK (a : Addr) (o : Obj) (kvs : List (List Key × V)) : It where
 go i H := H a = some (.bj o (.dT kvs)) /\ i < kvs.length
 yld i H x H' := H' = H /\ (gd o)[i]? = some x
 stop i H := H a = some (.bj o (.dT kvs)) /\ kvs.length <= i
noncomputable def mf (tl : TE) : TI := fun σ H R => tl σ H fun x H1 => ∃ a o kvs, x = .ref a /\ H1 a = some (.bj o (.dT kvs)) /\ (uq H1 (gd o) kvs -> R (uK a o kvs) H1)
theorem Ai {P : Program} {w : World} {h : Heap} (ok : bM P w H h) (e : H a = some (.bj o (.dT kvs))) : ∃ (as : List Addr) (es : Array DictEntry) (ep : Nat), uq H (gd o) kvs /\ (a == sysModules) = false /\ fA h a es ep /\ o.data = .dict es ep /\ es.size = kvs.length /\ kvs.length <= sizeLine /\ ∀ i (hi : i < es.size), ∃ b, es[i].key = .ref b /\ (gd o)[i]? = some (.ref b) := by
 obtain ⟨ho, z, lo, xs, rel, o', es, ep, b5, hc, hd, he, hn⟩ := ok a _ e
 rw [ho] at b5
 cases b5
 have hl : xs.length = kvs.length := (Paired.length rel).symm
 have hs : es.size = xs.length := size_of_entries he
 have ek : gd o = (xs.map (·.2.1)).map V.ref := by
  unfold gd
  rw [hd]
  show es.toList.map _ = _
  rw [he, List.map_map, List.map_map]
  exact List.map_congr_left fun x _ => rfl
 refine ⟨xs.map (·.2.1), es, ep, ?_, lo, ⟨o, ho, hc, hd⟩, hd, hs.trans hl, z, fun i hi => ?_⟩
 ·rw [ek]; exact KT.PH rel
 ·have hx : i < xs.length := by omega
  have e1 := entry_at he i
  rw [Array.getElem?_eq_getElem hi, List.getElem?_eq_getElem hx] at e1
  have e2 : es[i] = entryOfKey (tupleKind (gO P w)) xs[i] := by simpa using e1
  refine ⟨xs[i].2.1, by rw [e2]; rfl, ?_⟩
  rw [ek, List.getElem?_map, List.getElem?_map, List.getElem?_eq_getElem hx]
  rfl
theorem Rg {P : Program} {w : World} {K : PySem.W.Frag} {tg : Expr} (a it : Addr) (o : Obj) (kvs : List (List Key × V)) (bW : a ≠ it) : Turn P w K tg (uK a o kvs) [it] it (fun i h => ∃ es ep, o.data = .dict es ep /\ i <= es.size /\ h.IsKeyIter it a i es.size ep) where
 mem := by simp
 obj := fun i h st b hb => by
  have e : b = it := by simpa using hb
  subst e
  obtain ⟨es, ep, _, _, ob, e, c, d⟩ := st
  exact ⟨ob, e, fun v z => by rw [d] at z; cases z⟩
 keep := fun i h h' st k => by
  obtain ⟨es, ep, h1, h2, ob, e, c, d⟩ := st
  exact ⟨es, ep, h1, h2, ob, k it (by simp) ob e, c, d⟩
 item := by
  intro X hP hw hK hc i pins s σ H E I hf st hg
  subst hP hw hK
  obtain ⟨e, hi⟩ := hg
  obtain ⟨es, ep, hd, hle, hit⟩ := st
  obtain ⟨as, oP, oQ, hk, lo, raw, gp, hs, hz, hkey⟩ := Ai I.ar e
  rw [hd] at gp
  cases gp
  obtain ⟨f0, f1, f2, f3, f4, f5⟩ := hf it (by simp)
  have eS : i < es.size := by omega
  obtain ⟨b, eb, kb⟩ := hkey i eS
  refine PD hit raw eS fun h' ku sb => ?_
  have I1 : Inv X pins σ H { s with heap := h' } := I.turned (t' := s.toks) (fun b o hb e => (sb.2 b hb).trans e) f0 f1 f3 f4 f5
  obtain ⟨ob, e1, c1, d1⟩ := id ku
  exact ⟨es[i].key, rfl, lh (s := { s with heap := h' }) e1 c1 d1 (by decide) ⟨.ref b, H, I1, eb, ⟨rfl, kb⟩, ⟨es, ep, hd, eS, ku⟩, fun b hb => (hf b hb).1⟩⟩
 done := by
  intro X hP hw hK hc i pins s σ H E I hf st hg
  subst hP hw hK
  obtain ⟨e, hi⟩ := hg
  obtain ⟨es, ep, hd, hle, hit⟩ := st
  obtain ⟨as, oP, oQ, hk, lo, raw, gp, hs, hz, hkey⟩ := Ai I.ar e
  rw [hd] at gp
  cases gp
  obtain ⟨f0, f1, f2, f3, f4, f5⟩ := hf it (by simp)
  have ei : i = es.size := by omega
  subst ei
  exact PF (I.ok.hd hc) hit raw fun h' eb => ⟨rfl, I.turned (t' := s.toks) (fun b o hb e => eb b o hb e) f0 f1 f3 f4 f5⟩
 self := fun _ _ _ _ _ st h => by
  obtain ⟨es, ep, _, _, hit⟩ := st
  exact wpAny_pyIter_keyiter hit h
theorem Rh {tg l : Expr} {tl : TE} (hl : PE X l tl) : PI X tg l (mf tl) := by
 intro pins s σ H R I h
 refine aB (hl pins s σ H _ I h) fun v s1 ⟨x, H1, I1, r1, q1⟩ => ?_
 obtain ⟨a, o, kvs, e, hf, q⟩ := q1
 subst e
 cases r1
 obtain ⟨as, es, ep, hk, lo, raw, hd, hs, hz, hkey⟩ := Ai I1.ar hf
 refine PB lo raw ?_
 refine ⟨s1.heap.objs.size, [s1.heap.objs.size], _, _, H1, rfl, I1.kept (t' := s1.toks) fun b o e => Heap.get?_push_of_some _ e, Rg a _ o kvs (Nat.ne_of_lt raw.lt), ⟨es, ep, hd, Nat.zero_le _, _, Heap.get?_push_size _ rfl, rfl, rfl⟩, fun b hb => ?_, q hk⟩
 have e : b = s1.heap.objs.size := by simpa using hb
 subst e
 exact I1.d9 (Nat.le_refl _) (I1.ar.fresh (Nat.le_refl _))
theorem uL {tl : TE} {g : TG} {tb : TS} {D : Ends} : fO (mf tl) g tb D σ H = tl σ H (fun x H1 => ∃ a o kvs, x = .ref a /\ H1 a = some (.bj o (.dT kvs)) /\ (uq H1 (gd o) kvs -> FJ (uK a o kvs) g tb D σ H1)) := rfl
theorem Ri {g : TG} {tb : TS} {D : Ends} {xs : List V} (Pv : Nat -> L2.St -> Hp -> Prop) (hk : gd o = xs) (hxl : xs.length = kvs.length) (h0 : Pv 0 σ H) (hl : ∀ i σ H, i <= xs.length -> Pv i σ H -> H a = some (.bj o (.dT kvs)))
 (hs : ∀ i x σ H, xs[i]? = some x -> Pv i σ H -> g x σ H fun σ2 H2 => tb { D with nx := Pv (i + 1), ct := Pv (i + 1), bk := D.nx } σ2 H2) (hd : ∀ σ H, Pv xs.length σ H -> D.nx σ H) : FJ (uK a o kvs) g tb D σ H := by
 refine ⟨fun i m σ H => m = xs.length - i /\ i <= xs.length /\ Pv i σ H, ⟨xs.length, by simp, Nat.zero_le _, h0⟩, ?_⟩
 rintro i m σ H ⟨rfl, hi, p⟩
 have q := hl i σ H hi p
 by_cases a9 : i < xs.length
 ·refine .inr ⟨⟨q, by omega⟩, Pv (i + 1), fun σ' H' p' => ⟨xs.length - (i + 1), by omega, rfl, a9, p'⟩, fun x H' y => ?_⟩
  obtain ⟨e, y⟩ := y
  subst e
  rw [hk] at y
  exact hs i x σ _ y p
 ·have e : i = xs.length := by omega
  subst e
  exact .inl ⟨⟨q, by omega⟩, hd σ H p⟩
end
theorem Rj {H : Hp} {a p : Addr} {u v w : HO} (e : H a = some u) (h : H p = some v) (ne : v ≠ u) : upd H a w p = some v := by rw [aH (yt h e ne)]; exact h
section
variable {H H0 H1 : Hp} {a p : Addr} {kvs : List (List Key × V)} {o : Obj}
theorem Rk (e : H0 a = some (.dT kvs)) (s : aw (upd H0 a (.bj o (.dT kvs))) H1) : aw H0 (upd H1 a (.dT kvs)) := fun b u h => by
 by_cases hb : b = a
 ·subst hb; rw [e] at h; cases h; exact aq
 ·rw [aH hb]; exact s b u (by rw [aH hb]; exact h)
theorem Rl {xs : List V} (e : H a = some (.dT kvs)) (h : H p = some (.tup xs)) {u : HO} : upd H a u p = some (.tup xs) := Rj e h fun z => nomatch z
theorem bb.bj {v : V} {x y : En} (h : bb H v x y) (e : H a = some (.dT kvs)) {u : HO} : bb (upd H a u) v x y := let ⟨t, e1, h1⟩ := h; ⟨t, e1, Rl e h1⟩
theorem cL.bj {tb : Tb} (h : cL H kvs tb) (e : H a = some (.dT kvs)) {u : HO} : cL (upd H a u) kvs tb := h.imp fun _ _ _ z => z.bj e
end
theorem fR.z {H : Hp} {a b : Addr} {kvs : List (List Key × V)} {k : List Key} {o : Obj} (e : H a = some (.bj o (.dT kvs))) (eb : H b = some (.tup (k.map kV))) : fR H a (.ref b) (qe kvs k) := .inr ⟨kvs, k, b, .inr ⟨o, e⟩, rfl, eb, rfl⟩
end Gz
namespace Gz
open PySem PySem.Spec PyProof.Rows L2
noncomputable def fF (p : P2) : W2 := some (some p.1, some p.2)
theorem IG : ∀ (ss : List S2) (a b : Int), ∃ a' b', bh (some a, some b) ss = (some a', some b')
 | [], a, b => ⟨a, b, rfl⟩
 | s :: ss, a, b => by
  rw [uu]
  have h1 : ∃ x, cv (some a) s.1 = some x := by rcases s.1 with _ | c <;> exact ⟨_, rfl⟩
  have h2 : ∃ x, cw (some b) s.2 = some x := by rcases s.2 with _ | c <;> exact ⟨_, rfl⟩
  obtain ⟨x, hx⟩ := h1
  obtain ⟨y, hy⟩ := h2
  rw [hx, hy]
  exact IG ss x y
theorem Rm {a b : Int} {ss : List S2} {s : S2} (h : cF (none, none) ((some a, some b) :: ss) = some s) : ∃ p : P2, some s = fF p /\ p.1 <= p.2 := by
 unfold cF at h
 rw [uu] at h
 obtain ⟨x, y, e⟩ := IG ss a b
 rw [show (cv (none, none).1 (some a, some b).1, cw (none, none).2 (some a, some b).2) = ((some a, some b) : S2) from rfl, e] at h
 split at h
 ·cases h
 ·rename_i hc
  cases h
  exact ⟨(x, y), rfl, by simpa [ba] using hc⟩
theorem IH {f : Nat -> W2} (hf : ∀ k s, f k = some s -> ∃ p : P2, some s = fF p /\ p.1 <= p.2) : ∀ (ks : List Nat), (∀ k ∈ ks, f k ≠ none) -> ∃ pp : List P2, ks.map f = pp.map fF /\ eo pp
 | [], _ => ⟨[], rfl, fun _ h => nomatch h⟩
 | k :: ks, h => by
  obtain ⟨pp, e, ho⟩ := IH hf ks fun j hj => h j (.tail _ hj)
  cases hk : f k with
  | none => exact absurd hk (h k (.head _))
  | some s =>
   obtain ⟨p, e1, e2⟩ := hf k s hk
   refine ⟨p :: pp, by rw [List.map_cons, List.map_cons, e, hk, e1], fun q hq => ?_⟩
   rcases List.mem_cons.mp hq with rfl | hq
   ·exact e2
   ·exact ho q hq
theorem all_some : ∀ (ws : List W2), (∀ w ∈ ws, w ≠ none) -> ∃ gs : List S2, ws = gs.map some
 | [], _ => ⟨[], rfl⟩
 | w :: ws, h => by
  obtain ⟨gs, e⟩ := all_some ws fun j hj => h j (.tail _ hj)
  cases w with
  | none => exact absurd rfl (h none (.head _))
  | some s => exact ⟨s :: gs, by rw [e]; rfl⟩
theorem uM {H : Hp} : ∀ {ys : List V} {ws : List W2}, ay (bN H) ys ws -> l5 H ys /\ (ys.any fZ = ws.any Option.isNone) /\ ∀ m, fZ (ys.getD m .non) = (ws.getD m none).isNone
 | [], [], _ => ⟨(fun _ h => nomatch h), rfl, fun _ => rfl⟩
 | y :: ys, w :: ws, h => by
  obtain ⟨h1, h2⟩ := h
  obtain ⟨a, b, c⟩ := uM h2
  have key : (y = .non ∨ ∃ a ys, y = .ref a /\ H a = some (.tup ys)) /\ fZ y = w.isNone := by
   cases w with
   | none =>
    obtain rfl : y = .non := h1
    exact ⟨.inl rfl, rfl⟩
   | some s =>
    obtain ⟨p, rfl, hp⟩ := h1
    exact ⟨.inr ⟨p, _, rfl, hp⟩, rfl⟩
  refine ⟨fun v hv => ?_, by rw [List.any_cons, List.any_cons, b, key.2], fun m => ?_⟩
  ·rcases List.mem_cons.mp hv with rfl | hv
   ·exact key.1
   ·exact a v hv
  ·cases m with
   | zero => exact key.2
   | succ m => exact c m
 | [], _ :: _, h => h.elim
 | _ :: _, [], h => h.elim
theorem Aj {α : Type} {p : α -> Bool} {d : α} : ∀ {xs : List α}, xs.any p = true -> ∃ j, j < xs.length /\ p (xs.getD j d) = true /\ ∀ m, m < j -> p (xs.getD m d) = false
 | [], h => by cases h
 | x :: xs, h => by
  cases hx : p x with
  | true => exact ⟨0, Nat.zero_lt_succ _, hx, fun m hm => absurd hm (Nat.not_lt_zero _)⟩
  | false =>
   rw [List.any_cons, hx, Bool.false_or] at h
   obtain ⟨j, h1, h2, h3⟩ := Aj (d := d) h
   refine ⟨j + 1, Nat.succ_lt_succ h1, h2, fun m hm => ?_⟩
   cases m with
   | zero => exact hx
   | succ m => exact h3 m (Nat.lt_of_succ_lt_succ hm)
theorem II {ws : List W2} (h : ws.any Option.isNone = false) : ∀ w ∈ ws, w ≠ none := fun w hw e => by
 have := List.any_eq_false.mp h w hw
 rw [e] at this
 exact this rfl
theorem Ak {H : Hp} : ∀ {ys : List V} {pp : List P2}, ay (bN H) ys (pp.map fF) -> dO H ys pp
 | [], [], _ => trivial
 | _ :: _, _ :: _, h => ⟨h.1, Ak h.2⟩
 | [], _ :: _, h => h.elim
 | _ :: _, [], h => h.elim
end Gz
namespace Al
open PySem L2 Gz
local macro_rules | `(tactic| walk_at "gzs") => `(tactic| simp only [ig, ij, uo, um, qJ, sJ, sL, sM, sN, sO, qO, qN, gq, gA, g6, iw, ix, List.map_cons, List.map_nil, cf, ff, qU, qY, uJ, qX, mf, uL, lb, pf, lC, gU, pB, k8, tC, pe, o9, lg, b6, lH, lF, j4, pL, oU, oV, tB, oX, oY, oZ, o4, o5, o6, o7, pd, rI, fj, rU, pC, pE, sX, sY, sZ, tf, tj, sR, sS, sT, sU, sV, sW, ite_tt, ite_ff, L2.start, tm, tq, List.map_cons, List.map_nil, List.length_cons, List.length_nil, List.replicate, List.append_nil, List.nil_append, List.cons_append, List.getElem?_cons_zero, List.getElem?_cons_succ, List.set_cons_zero, List.set_cons_succ, Option.some.injEq, V.int.injEq, V.bl.injEq, V.ref.injEq, List.cons.injEq, exists_eq_left, exists_eq_left', exists_and_left, true_and, and_true, decide_eq_true_eq, Nat.zero_add, Nat.sub_self, Nat.add_one_sub_one, Nat.reduceAdd, Nat.reduceSub, reduceCtorEq, decide_true, decide_false, Bool.not_true, Bool.not_false, Bool.not_eq_true', decide_eq_false_iff_not, false_and, exists_false, and_assoc, pJ, pK, p8, g6, qb, sG, tu, tD, tE, ↓reduceIte, not_false_eq_true, not_true_eq_false, lP, lO, tR, qD, lp, lj, qp, gq, gA, lQ, lx, lq, t6, t7, pH, pI, lG, pM, pV, pQ, pR, pX, qd, ud, ue, uf, lD, qG, lR, lS, lU, Option.join_some])
local macro_rules | `(tactic| walk_at "gzd") => `(tactic| dsimp only [ig, ij, uo, um, qJ, sJ, sL, sM, sN, sO, qO, qN, gq, gA, g6, iw, ix, List.map_cons, List.map_nil, cf, ff, qU, qY, uJ, qX, mf, uL, lb, pf, lC, gU, pB, k8, tC, pe, o9, lg, b6, lH, lF, j4, pL, oU, oV, tB, oX, oY, oZ, o4, o5, o6, o7, pd, rI, fj, rU, pC, pE, sX, sY, sZ, tf, tj, sR, sS, sT, sU, sV, sW, ite_tt, ite_ff, L2.start, tm, tq, List.map_cons, List.map_nil, List.length_cons, List.length_nil, List.replicate, List.append_nil, List.nil_append, List.cons_append, List.getElem?_cons_zero, List.getElem?_cons_succ, List.set_cons_zero, List.set_cons_succ, Option.some.injEq, V.int.injEq, V.bl.injEq, V.ref.injEq, List.cons.injEq, exists_eq_left, exists_eq_left', exists_and_left, true_and, and_true, decide_eq_true_eq, Nat.zero_add, Nat.sub_self, Nat.add_one_sub_one, Nat.reduceAdd, Nat.reduceSub, reduceCtorEq, decide_true, decide_false, Bool.not_true, Bool.not_false, Bool.not_eq_true', decide_eq_false_iff_not, false_and, exists_false, and_assoc, pJ, pK, p8, g6, qb, sG, tu, tD, tE, ↓reduceIte, not_false_eq_true, not_true_eq_false, lP, lO, tR, qD, lp, lj, qp, gq, gA, lQ, lx, lq, t6, t7, pH, pI, lG, pM, pV, pQ, pR, pX, qd, ud, ue, uf, lD, qG, lR, lS, lU, Option.join_some])
local macro_rules | `(tactic| walk_at "gzp") => `(tactic| first | (walk_at "gzd"; try walk_at "gzs") | walk_at "gzs")
local macro_rules | `(tactic| walk_at "gz") => `(tactic| try walk_at "gzp")
local macro_rules | `(tactic| walk_at "gza") => `(tactic| simp only [ig, ij, uo, um, qJ, sJ, sL, sM, sN, sO, qO, qN, gq, gA, g6, iw, ix, List.map_cons, List.map_nil, cf, ff, qU, qY, uJ, qX, mf, uL, lb, pf, lC, gU, pB, k8, tC, pe, o9, lg, b6, lH, lF, j4, pL, oU, oV, tB, oX, oY, oZ, o4, o5, o6, o7, pd, rI, fj, rU, pC, pE, sX, sY, sZ, tf, tj, sR, sS, sT, sU, sV, sW, ite_tt, ite_ff, L2.start, tm, tq, List.map_cons, List.map_nil, List.length_cons, List.length_nil, List.replicate, List.append_nil, List.nil_append, List.cons_append, List.getElem?_cons_zero, List.getElem?_cons_succ, List.set_cons_zero, List.set_cons_succ, Option.some.injEq, V.int.injEq, V.bl.injEq, V.ref.injEq, List.cons.injEq, exists_eq_left, exists_eq_left', exists_and_left, true_and, and_true, decide_eq_true_eq, Nat.zero_add, Nat.sub_self, Nat.add_one_sub_one, Nat.reduceAdd, Nat.reduceSub, reduceCtorEq, decide_true, decide_false, Bool.not_true, Bool.not_false, Bool.not_eq_true', decide_eq_false_iff_not, false_and, exists_false, and_assoc, pJ, pK, p8, g6, qb, sG, tu, tD, tE, ↓reduceIte, not_false_eq_true, not_true_eq_false, lP, lO, tR, qD, lp, lj, qp, gq, gA, lQ, lx, lq, t6, t7, pH, pI, lG, pM, pV, pQ, pR, pX, qd, ud, ue, uf, lD, qG, lR, lS, lU, Option.join_some] at *)
local macro_rules | `(tactic| walk_at "sd") => `(tactic| (and_intros <;> first | assumption | exact tF (by decide) | exact tF (Oo _) | exact GL (by decide) (by decide) | exact ⟨by decide, by decide, by decide⟩ | decide | omega))
local macro_rules | `(tactic| walk_at "gzn") => `(tactic| ((try walk_at "gzd"); (try simp only [ig, ij, uo, um, qJ, sJ, sL, sM, sN, sO, qO, qN, gq, gA, g6, iw, ix, List.map_cons, List.map_nil, cf, ff, qU, qY, uJ, qX, mf, uL, lb, pf, lC, gU, pB, k8, tC, pe, o9, lg, b6, lH, lF, j4, pL, oU, oV, tB, oX, oY, oZ, o4, o5, o6, o7, pd, rI, fj, rU, pC, pE, sX, sY, sZ, tf, tj, sR, sS, sT, sU, sV, sW, ite_tt, ite_ff, L2.start, tm, tq, List.map_cons, List.map_nil, List.length_cons, List.length_nil, List.replicate, List.append_nil, List.nil_append, List.cons_append, List.getElem?_cons_zero, List.getElem?_cons_succ, List.set_cons_zero, List.set_cons_succ, Option.some.injEq, V.int.injEq, V.bl.injEq, V.ref.injEq, List.cons.injEq, exists_eq_left, exists_eq_left', exists_and_left, true_and, and_true, decide_eq_true_eq, Nat.zero_add, Nat.sub_self, Nat.add_one_sub_one, Nat.reduceAdd, Nat.reduceSub, reduceCtorEq, decide_true, decide_false, Bool.not_true, Bool.not_false, Bool.not_eq_true', decide_eq_false_iff_not, false_and, exists_false, and_assoc, pJ, pK, p8, g6, qb, sG, tu, tD, tE, ↓reduceIte, not_false_eq_true, not_true_eq_false, lP, lO, tR, qD, lp, lj, qp, gq, gA, lQ, lx, lq, t6, t7, pH, pI, lG, pM, pV, pQ, pR, pX, qd, ud, ue, uf, lD, qG, lR, lS, lU, Option.join_some, Int.reducePow, Int.reduceToNat, Int.reduceMul, Int.reduceAdd])))
noncomputable def dm (H : Hp) (v : V) (m : Mk) : Prop := ∃ (t p : Addr), v = .ref t /\ H t = some (.tup [.int m.1, .ref p]) /\ H p = some (.tup [ev m.2.1, ev m.2.2])
theorem dm.same {H H' : Hp} {v : V} {m : Mk} (h : dm H v m) (s : aw H H') : dm H' v m := let ⟨t, p, e, a, b⟩ := h; ⟨t, p, e, s _ _ a, s _ _ b⟩
noncomputable def uN (ps : List P2) (a b : Mk) : Bool := match a.2.2, b.2.1 with
 | some hi, some lo => decide (cK ps a.1 b.1 < lo - hi)
 | _, _ => false
noncomputable def top (i : Nat) : Stmt := PySem.Challenge.pw_gaze_k44_papers_without_words.main.body.getD i (.Pass ⟨0, 0, 0, 0⟩)
noncomputable abbrev mh : Stmt := top 18
noncomputable abbrev mi : Stmt := top 19
noncomputable abbrev mj : Stmt := top 20
noncomputable abbrev ml : Stmt := top 22
noncomputable abbrev mn : Stmt := top 24
noncomputable abbrev mq : Stmt := top 25
noncomputable abbrev mr : Stmt := top 26
noncomputable abbrev mv : Stmt := top 27
noncomputable abbrev mw : Stmt := top 28
noncomputable abbrev mx : Stmt := top 29
noncomputable abbrev my : Stmt := top 30
noncomputable abbrev mz : Stmt := top 31
noncomputable abbrev mB : Stmt := top 32
noncomputable abbrev mC : Stmt := top 34
noncomputable abbrev mD : Stmt := top 35
noncomputable abbrev mE : Stmt := top 36
noncomputable abbrev mF : Stmt := top 37
noncomputable abbrev mG : Stmt := top 38
noncomputable abbrev mH : Stmt := top 40
noncomputable abbrev mI : Stmt := top 41
noncomputable abbrev mJ : Stmt := top 42
noncomputable abbrev mK : Stmt := top 43
noncomputable abbrev qZ : Stmt := top 45
noncomputable abbrev mL : Stmt := top 46
noncomputable abbrev mM : Stmt := top 47
noncomputable abbrev mO : Stmt := top 48
noncomputable abbrev mP : Stmt := top 49
noncomputable abbrev mQ : Stmt := top 50
noncomputable abbrev mR : Stmt := inClass (top 54) 0
noncomputable abbrev mS : Stmt := inClass (top 54) 2
noncomputable abbrev mT : Stmt := inClass (top 54) 6
noncomputable abbrev mU : Stmt := top 56
noncomputable abbrev mV : Stmt := top 57
noncomputable abbrev mW : Stmt := top 58
noncomputable abbrev mX : Stmt := top 59
noncomputable abbrev mY : Stmt := top 60
noncomputable abbrev mZ : Stmt := top 61
noncomputable abbrev m4 : Stmt := top 62
noncomputable abbrev m5 : Stmt := top 63
noncomputable abbrev m6 : Stmt := top 64
noncomputable abbrev m7 : Stmt := top 65
noncomputable abbrev m8 : Stmt := top 66
noncomputable abbrev m9 : Stmt := top 67
noncomputable abbrev nc : Stmt := top 68
noncomputable abbrev ng : Stmt := top 69
noncomputable abbrev nh : Stmt := top 70
noncomputable abbrev ni : Stmt := top 71
noncomputable abbrev nj : Stmt := top 72
noncomputable abbrev nk : Stmt := top 73
noncomputable abbrev nq : Stmt := top 74
noncomputable abbrev nr : Stmt := top 75
noncomputable abbrev nu : Stmt := top 76
noncomputable abbrev nv : Stmt := top 77
noncomputable abbrev e9 : Stmt := top 78
theorem Rn : aS ["lo", "hi"] ["lo", "hi"] (ax mh) := ⟨rfl, rfl, rfl, by decide +kernel, rfl, by decide +kernel, by decide +kernel⟩
theorem Am : aS ["one", "other", "lo", "hi"] ["one", "other"] (ax mi) := ⟨rfl, rfl, rfl, by decide +kernel, rfl, by decide +kernel, by decide +kernel⟩
theorem uO : aS ["some", "whole", "one"] ["some"] (ax mj) := ⟨rfl, rfl, rfl, by decide +kernel, rfl, by decide +kernel, by decide +kernel⟩
theorem Ro : aS ["cell"] ["cell"] (ax ml) := ⟨rfl, rfl, rfl, by decide +kernel, rfl, by decide +kernel, by decide +kernel⟩
theorem An : aS ["one", "step", "lo", "hi"] ["one", "step"] (ax mn) := ⟨rfl, rfl, rfl, by decide +kernel, rfl, by decide +kernel, by decide +kernel⟩
theorem ny : aS ["boxes", "steps", "kept", "turn", "box", "left"] ["boxes", "steps"] (ax mq) := ⟨rfl, rfl, rfl, by decide +kernel, rfl, by decide +kernel, by decide +kernel⟩
theorem Rp : aS ["marks", "turn"] ["marks", "turn"] (ax mr) := ⟨rfl, rfl, rfl, by decide +kernel, rfl, by decide +kernel, by decide +kernel⟩
theorem Ao : aS ["steps", "marks", "forth", "backward"] ["steps", "marks"] (ax mv) := ⟨rfl, rfl, rfl, by decide +kernel, rfl, by decide +kernel, by decide +kernel⟩
theorem q8 : aS ["steps", "marks", "boxes", "course", "step", "box"] ["steps", "marks"] (ax mw) := ⟨rfl, rfl, rfl, by decide +kernel, rfl, by decide +kernel, by decide +kernel⟩
theorem Rq : aS ["one", "other"] ["one", "other"] (ax mx) := ⟨rfl, rfl, rfl, by decide +kernel, rfl, by decide +kernel, by decide +kernel⟩
theorem Rr : aS ["one", "by"] ["one", "by"] (ax my) := ⟨rfl, rfl, rfl, by decide +kernel, rfl, by decide +kernel, by decide +kernel⟩
theorem nz : aS ["steps", "marks", "tops", "number", "mark", "turn"] ["steps", "marks"] (ax mz) := ⟨rfl, rfl, rfl, by decide +kernel, rfl, by decide +kernel, by decide +kernel⟩
theorem uP : aS ["tops", "marks", "number", "mark", "top"] ["tops", "marks"] (ax mB) := ⟨rfl, rfl, rfl, by decide +kernel, rfl, by decide +kernel, by decide +kernel⟩
theorem Rt : aS ["board", "kind", "turn"] ["board", "kind", "turn"] (ax mC) := ⟨rfl, rfl, rfl, by decide +kernel, rfl, by decide +kernel, by decide +kernel⟩
theorem IJ : aS ["board", "claim", "part"] ["board", "claim"] (ax mD) := ⟨rfl, rfl, rfl, by decide +kernel, rfl, by decide +kernel, by decide +kernel⟩
theorem Ru : aS ["claim", "kind", "turn"] ["claim", "kind", "turn"] (ax mE) := ⟨rfl, rfl, rfl, by decide +kernel, rfl, by decide +kernel, by decide +kernel⟩
theorem IK : aS ["board", "claim", "own"] ["board", "claim"] (ax mF) := ⟨rfl, rfl, rfl, by decide +kernel, rfl, by decide +kernel, by decide +kernel⟩
theorem Rv : aS ["board", "claim"] ["board", "claim"] (ax mG) := ⟨rfl, rfl, rfl, by decide +kernel, rfl, by decide +kernel, by decide +kernel⟩
theorem Rw : aS ["board", "eye"] ["board", "eye"] (ax mH) := ⟨rfl, rfl, rfl, by decide +kernel, rfl, by decide +kernel, by decide +kernel⟩
theorem Rx : aS ["board", "some"] ["board", "some"] (ax mI) := ⟨rfl, rfl, rfl, by decide +kernel, rfl, by decide +kernel, by decide +kernel⟩
theorem Ry : aS ["board"] ["board"] (ax mJ) := ⟨rfl, rfl, rfl, by decide +kernel, rfl, by decide +kernel, by decide +kernel⟩
theorem iA : aS ["steps", "groups", "found", "name", "marks", "tops", "beside", "others", "pair"] ["steps", "groups"] (ax mK) := ⟨rfl, rfl, rfl, by decide +kernel, rfl, by decide +kernel, by decide +kernel⟩
theorem Rz : aS ["pair"] ["pair"] (ax mL) := ⟨rfl, rfl, rfl, by decide +kernel, rfl, by decide +kernel, by decide +kernel⟩
theorem IL : aS ["pairs", "most", "eye", "others"] ["pairs", "most"] (ax mM) := ⟨rfl, rfl, rfl, by decide +kernel, rfl, by decide +kernel, by decide +kernel⟩
theorem RA : aS ["pairs", "eye", "most"] ["pairs", "eye", "most"] (ax mO) := ⟨rfl, rfl, rfl, by decide +kernel, rfl, by decide +kernel, by decide +kernel⟩
theorem q9 : aS ["pairs", "most", "one", "other", "first", "second"] ["pairs", "most"] (ax mP) := ⟨rfl, rfl, rfl, by decide +kernel, rfl, by decide +kernel, by decide +kernel⟩
theorem nA : aS ["board", "claim", "steps", "goals", "marks", "pairs", "aside"] ["board", "claim"] (ax mQ) := ⟨rfl, rfl, rfl, by decide +kernel, rfl, by decide +kernel, by decide +kernel⟩
theorem RB : aS ["self", "eyes", "turns", "up", "down", "most"] ["self", "eyes", "turns", "up", "down", "most"] (ax mR) := ⟨rfl, rfl, rfl, by decide +kernel, rfl, by decide +kernel, by decide +kernel⟩
theorem RC : aS ["self", "turn"] ["self", "turn"] (ax mS) := ⟨rfl, rfl, rfl, by decide +kernel, rfl, by decide +kernel, by decide +kernel⟩
theorem RD : aS ["self"] ["self"] (ax mT) := ⟨rfl, rfl, rfl, by decide +kernel, rfl, by decide +kernel, by decide +kernel⟩
theorem Ap : aS ["_law_script", "_law_k", "_law_many", "_law_cell"] ["_law_script", "_law_k", "_law_many"] (ax mU) := ⟨rfl, rfl, rfl, by decide +kernel, rfl, by decide +kernel, by decide +kernel⟩
theorem Aq : aS ["_law_script", "_law_k", "_law_many", "_law_cell"] ["_law_script", "_law_k", "_law_many"] (ax mV) := ⟨rfl, rfl, rfl, by decide +kernel, rfl, by decide +kernel, by decide +kernel⟩
theorem cj : aS ["_law_script", "_law_way", "_law_eyes", "_law_turns", "_law_most", "_law_far", "_law_up", "_law_down"] ["_law_script"] (ax mW) := ⟨rfl, rfl, rfl, by decide +kernel, rfl, by decide +kernel, by decide +kernel⟩
theorem nB : aS ["_law_script", "_law_shape_here", "_law_size", "_law_number", "_law_course_here", "_law_k"] ["_law_script", "_law_shape_here"] (ax mX) := ⟨rfl, rfl, rfl, by decide +kernel, rfl, by decide +kernel, by decide +kernel⟩
theorem gf : aS ["_law_script", "_law_k", "_law_far", "_law_number", "_law_false", "_law_by", "_law_lo", "_law_hi", "_law_end"] ["_law_script", "_law_k", "_law_far", "_law_number", "_law_false"] (ax mY) := ⟨rfl, rfl, rfl, by decide +kernel, rfl, by decide +kernel, by decide +kernel⟩
theorem RE : aS ["_law_span", "_law_number"] ["_law_span", "_law_number"] (ax mZ) := ⟨rfl, rfl, rfl, by decide +kernel, rfl, by decide +kernel, by decide +kernel⟩
theorem RF : aS ["_law_found"] ["_law_found"] (ax m4) := ⟨rfl, rfl, rfl, by decide +kernel, rfl, by decide +kernel, by decide +kernel⟩
theorem nC : aS ["_law_lo", "_law_hi", "_law_claim", "_law_kind", "_law_turn", "_law_sort", "_law_at", "_law_span"] ["_law_lo", "_law_hi", "_law_claim", "_law_kind", "_law_turn"] (ax m5) := ⟨rfl, rfl, rfl, by decide +kernel, rfl, by decide +kernel, by decide +kernel⟩
theorem RG : aS ["_law_shape_here", "_law_claim"] ["_law_shape_here", "_law_claim"] (ax m6) := ⟨rfl, rfl, rfl, by decide +kernel, rfl, by decide +kernel, by decide +kernel⟩
theorem RH : aS ["_law_shape_here", "_law_claim"] ["_law_shape_here", "_law_claim"] (ax m7) := ⟨rfl, rfl, rfl, by decide +kernel, rfl, by decide +kernel, by decide +kernel⟩
theorem uQ : aS ["_law_told", "_law_course_here", "_law_eyes", "_law_eye", "_law_turn"] ["_law_told", "_law_course_here"] (ax m8) := ⟨rfl, rfl, rfl, by decide +kernel, rfl, by decide +kernel, by decide +kernel⟩
theorem nD : aS ["_law_course_here", "_law_claim", "_law_kind", "_law_turn", "_law_span", "_law_number"] ["_law_course_here", "_law_claim"] (ax m9) := ⟨rfl, rfl, rfl, by decide +kernel, rfl, by decide +kernel, by decide +kernel⟩
theorem Ar : aS ["_law_found", "_law_shape_here", "_law_told", "_law_claim", "_law_number", "_law_k"] ["_law_found", "_law_shape_here", "_law_told", "_law_claim"] (ax nc) := ⟨rfl, rfl, rfl, by decide +kernel, rfl, by decide +kernel, by decide +kernel⟩
theorem rf : aS ["_law_steps_here", "_law_one", "_law_other", "_law_total", "_law_k"] ["_law_steps_here", "_law_one", "_law_other"] (ax ng) := ⟨rfl, rfl, rfl, by decide +kernel, rfl, by decide +kernel, by decide +kernel⟩
theorem RI : aS ["_law_steps_here", "_law_one", "_law_other"] ["_law_steps_here", "_law_one", "_law_other"] (ax nh) := ⟨rfl, rfl, rfl, by decide +kernel, rfl, by decide +kernel, by decide +kernel⟩
theorem RJ : aS ["_law_place", "_law_told", "_law_goals_here", "_law_aside"] ["_law_place", "_law_told", "_law_goals_here", "_law_aside"] (ax ni) := ⟨rfl, rfl, rfl, by decide +kernel, rfl, by decide +kernel, by decide +kernel⟩
theorem As : aS ["_law_paper", "_law_told", "_law_known", "_law_aside", "_law_one", "_law_other"] ["_law_paper", "_law_told", "_law_known", "_law_aside"] (ax nj) := ⟨rfl, rfl, rfl, by decide +kernel, rfl, by decide +kernel, by decide +kernel⟩
theorem iB : aS ["_law_paper", "_law_told", "_law_known", "_law_aside", "_law_steps_here", "_law_goals_here", "_law_most", "_law_rows", "_law_one", "_law_other"] ["_law_paper", "_law_told", "_law_known", "_law_aside"] (ax nk) := ⟨rfl, rfl, rfl, by decide +kernel, rfl, by decide +kernel, by decide +kernel⟩
theorem IM : aS ["_law_answer", "_law_shape_here", "_law_told", "_law_claim", "_law_known"] ["_law_answer", "_law_shape_here", "_law_told", "_law_claim"] (ax nq) := ⟨rfl, rfl, rfl, by decide +kernel, rfl, by decide +kernel, by decide +kernel⟩
theorem gh : aS ["_law_script", "_law_shape_here", "_law_course_here", "_law_parts_here", "_law_j", "_law_k", "_law_turn", "_law_kind", "_law_number", "_law_false"] ["_law_script", "_law_shape_here", "_law_course_here"] (ax nr) := ⟨rfl, rfl, rfl, by decide +kernel, rfl, by decide +kernel, by decide +kernel⟩
theorem iC : aS ["_law_script", "_law_shape_here", "_law_claim", "_law_turns", "_law_far", "_law_some", "_law_kind", "_law_turn", "_law_at"] ["_law_script", "_law_shape_here", "_law_claim"] (ax nu) := ⟨rfl, rfl, rfl, by decide +kernel, rfl, by decide +kernel, by decide +kernel⟩
theorem kz : aS ["_law_board", "_law_claim", "_law_seen", "e"] ["_law_board", "_law_claim"] (ax nv) := ⟨rfl, rfl, rfl, by decide +kernel, rfl, by decide +kernel, by decide +kernel⟩
theorem kA : aS ["_law_script", "_law_shape_here", "_law_course_here", "_law_claim", "_law_board", "_law_handed", "_law_found"] ["_law_script"] (ax e9) := ⟨rfl, rfl, rfl, by decide +kernel, rfl, by decide +kernel, by decide +kernel⟩
set_option genInjectivity false
set_option genSizeOf false
structure Tx (K : PySem.W.Frag) (mg : Str -> Option Value) where
 iD : Addr
 uR : FuncData
 nE : aQ K "is_crossed" "is_crossed" mh iD uR
 IP : mg "is_crossed" = some (.ref iD)
 uS : Binds K uR ["lo", "hi"] []
 iE : Addr
 uT : FuncData
 iF : aQ K "meet" "meet" mi iE uT
 uU : mg "meet" = some (.ref iE)
 nF : Binds K uT ["one", "other"] []
 iG : Addr
 uV : FuncData
 iH : aQ K "common" "common" mj iG uV
 uW : mg "common" = some (.ref iG)
 nG : Binds K uV ["some"] []
 iI : Addr
 uX : FuncData
 kB : aQ K "number_in" "number_in" ml iI uX
 Au : mg "number_in" = some (.ref iI)
 rg : Binds K uX ["cell"] []
 iJ : Addr
 uY : FuncData
 kC : aQ K "moved" "moved" mn iJ uY
 Av : mg "moved" = some (.ref iJ)
 rh : Binds K uY ["one", "step"] []
 iK : Addr
 uZ : FuncData
 kD : aQ K "narrowed" "narrowed" mq iK uZ
 Aw : mg "narrowed" = some (.ref iK)
 rk : Binds K uZ ["boxes", "steps"] []
 iL : Addr
 u0 : FuncData
 nH : aQ K "stretches_at" "stretches_at" mr iL u0
 IQ : mg "stretches_at" = some (.ref iL)
 va : Binds K u0 ["marks", "turn"] []
 iM : Addr
 vc : FuncData
 nI : aQ K "tube" "tube" mv iM vc
 IS : mg "tube" = some (.ref iM)
 vd : Binds K vc ["steps", "marks"] []
 iN : Addr
 ve : FuncData
 nJ : aQ K "course_in" "course_in" mw iN ve
 IT : mg "course_in" = some (.ref iN)
 vf : Binds K ve ["steps", "marks"] []
 iO : Addr
 vg : FuncData
 iP : aQ K "lesser" "lesser" mx iO vg
 vh : mg "lesser" = some (.ref iO)
 nK : Binds K vg ["one", "other"] []
 iQ : Addr
 vk : FuncData
 kE : aQ K "lifted" "lifted" my iQ vk
 Ax : mg "lifted" = some (.ref iQ)
 rm : Binds K vk ["one", "by"] []
 iR : Addr
 vm : FuncData
 nM : aQ K "ceilings" "ceilings" mz iR vm
 IU : mg "ceilings" = some (.ref iR)
 vo : Binds K vm ["steps", "marks"] []
 iS : Addr
 vp : FuncData
 nN : aQ K "crossing" "crossing" mB iS vp
 IV : mg "crossing" = some (.ref iS)
 vq : Binds K vp ["tops", "marks"] []
 iT : Addr
 vt : FuncData
 nO : aQ K "has_part" "has_part" mC iT vt
 IW : mg "has_part" = some (.ref iT)
 vv : Binds K vt ["board", "kind", "turn"] []
 iU : Addr
 vw : FuncData
 kF : aQ K "check_claim" "check_claim" mD iU vw
 Ay : mg "check_claim" = some (.ref iU)
 rn : Binds K vw ["board", "claim"] []
 iV : Addr
 vx : FuncData
 kG : aQ K "stretches_of" "stretches_of" mE iV vx
 Az : mg "stretches_of" = some (.ref iV)
 rq : Binds K vx ["claim", "kind", "turn"] []
 iW : Addr
 vy : FuncData
 nP : aQ K "paces" "paces" mF iW vy
 IX : mg "paces" = some (.ref iW)
 vz : Binds K vy ["board", "claim"] []
 iX : Addr
 vA : FuncData
 nQ : aQ K "wanted" "wanted" mG iX vA
 IY : mg "wanted" = some (.ref iX)
 vB : Binds K vA ["board", "claim"] []
 iY : Addr
 vC : FuncData
 nR : aQ K "marks_of" "marks_of" mH iY vC
 IZ : mg "marks_of" = some (.ref iY)
 vD : Binds K vC ["board", "eye"] []
 iZ : Addr
 vE : FuncData
 nT : aQ K "marks_without" "marks_without" mI iZ vE
 I0 : mg "marks_without" = some (.ref iZ)
 vF : Binds K vE ["board", "some"] []
 i0 : Addr
 vG : FuncData
 nU : aQ K "groups_of" "groups_of" mJ i0 vG
 Ja : mg "groups_of" = some (.ref i0)
 vH : Binds K vG ["board"] []
 i3 : Addr
 vI : FuncData
 nV : aQ K "clashes" "clashes" mK i3 vI
 Jb : mg "clashes" = some (.ref i3)
 vJ : Binds K vI ["steps", "groups"] []
 kH : Addr
 AA : FuncData
 vK : aQ K "without" "without" qZ kH AA
 RK : mg "without" = some (.ref kH)
 AB : Binds K AA ["pairs", "eye"] []
 i4 : Addr
 vL : FuncData
 nW : aQ K "eyes_of" "eyes_of" mL i4 vL
 Jc : mg "eyes_of" = some (.ref i4)
 vM : Binds K vL ["pair"] []
 i5 : Addr
 vN : FuncData
 nX : aQ K "put_aside" "put_aside" mM i5 vN
 Jd : mg "put_aside" = some (.ref i5)
 vO : Binds K vN ["pairs", "most"] []
 i6 : Addr
 vP : FuncData
 kI : aQ K "branch" "branch" mO i6 vP
 AD : mg "branch" = some (.ref i6)
 rA : Binds K vP ["pairs", "eye", "most"] []
 i7 : Addr
 vQ : FuncData
 nY : aQ K "paper" "paper" mP i7 vQ
 Je : mg "paper" = some (.ref i7)
 vR : Binds K vQ ["pairs", "most"] []
 i8 : Addr
 vS : FuncData
 kJ : aQ K "ask" "ask" mQ i8 vS
 AE : mg "ask" = some (.ref i8)
 rB : Binds K vS ["board", "claim"] []
 i9 : Addr
 vT : FuncData
 rC : aQ K "__init__" "Board.__init__" mR i9 vT
 vU : Binds K vT ["self", "eyes", "turns", "up", "down", "most"] []
 ja : Addr
 vV : FuncData
 rD : aQ K "has_turn" "Board.has_turn" mS ja vV
 nZ : Binds K vV ["self", "turn"] []
 jb : Addr
 vW : FuncData
 rE : aQ K "tellings" "Board.tellings" mT jb vW
 n4 : Binds K vW ["self"] []
 jc : Addr
 vX : FuncData
 bG : aQ K "_law_pick" "_law_pick" mU jc vX
 bT : mg "_law_pick" = some (.ref jc)
 bO : Binds K vX ["_law_script", "_law_k", "_law_many"] []
 jd : Addr
 vY : FuncData
 gL : aQ K "_law_wide" "_law_wide" mV jd vY
 rF : mg "_law_wide" = some (.ref jd)
 kK : Binds K vY ["_law_script", "_law_k", "_law_many"] []
 je : Addr
 vZ : FuncData
 n5 : aQ K "_law_shape" "_law_shape" mW je vZ
 Jf : mg "_law_shape" = some (.ref je)
 v5 : Binds K vZ ["_law_script"] []
 jf : Addr
 v7 : FuncData
 n6 : aQ K "_law_course" "_law_course" mX jf v7
 Jg : mg "_law_course" = some (.ref jf)
 v8 : Binds K v7 ["_law_script", "_law_shape_here"] []
 jg : Addr
 v9 : FuncData
 n9 : aQ K "_law_word" "_law_word" mY jg v9
 Jh : mg "_law_word" = some (.ref jg)
 wa : Binds K v9 ["_law_script", "_law_k", "_law_far", "_law_number", "_law_false"] []
 jh : Addr
 wb : FuncData
 og : aQ K "_law_in" "_law_in" mZ jh wb
 Ji : mg "_law_in" = some (.ref jh)
 wc : Binds K wb ["_law_span", "_law_number"] []
 ji : Addr
 wg : FuncData
 jk : aQ K "_law_whole" "_law_whole" m4 ji wg
 wj : mg "_law_whole" = some (.ref ji)
 oh : Binds K wg ["_law_found"] []
 jm : Addr
 wk : FuncData
 kL : aQ K "_law_common" "_law_common" m5 jm wk
 AF : mg "_law_common" = some (.ref jm)
 rG : Binds K wk ["_law_lo", "_law_hi", "_law_claim", "_law_kind", "_law_turn"] []
 jn : Addr
 wm : FuncData
 oi : aQ K "_law_steps" "_law_steps" m6 jn wm
 Jj : mg "_law_steps" = some (.ref jn)
 wo : Binds K wm ["_law_shape_here", "_law_claim"] []
 jo : Addr
 wq : FuncData
 oj : aQ K "_law_goals" "_law_goals" m7 jo wq
 Jk : mg "_law_goals" = some (.ref jo)
 wt : Binds K wq ["_law_shape_here", "_law_claim"] []
 jq : Addr
 wu : FuncData
 oo : aQ K "_law_liars" "_law_liars" m8 jq wu
 Jl : mg "_law_liars" = some (.ref jq)
 wx : Binds K wu ["_law_told", "_law_course_here"] []
 jr : Addr
 wy : FuncData
 oq : aQ K "_law_met" "_law_met" m9 jr wy
 Jm : mg "_law_met" = some (.ref jr)
 wz : Binds K wy ["_law_course_here", "_law_claim"] []
 jt : Addr
 wA : FuncData
 ot : aQ K "_law_walked" "_law_walked" nc jt wA
 Jn : mg "_law_walked" = some (.ref jt)
 wB : Binds K wA ["_law_found", "_law_shape_here", "_law_told", "_law_claim"] []
 ju : Addr
 wC : FuncData
 ou : aQ K "_law_rise" "_law_rise" ng ju wC
 Jo : mg "_law_rise" = some (.ref ju)
 wD : Binds K wC ["_law_steps_here", "_law_one", "_law_other"] []
 jv : Addr
 wF : FuncData
 ox : aQ K "_law_clash" "_law_clash" nh jv wF
 Jp : mg "_law_clash" = some (.ref jv)
 wG : Binds K wF ["_law_steps_here", "_law_one", "_law_other"] []
 jw : Addr
 wH : FuncData
 kM : aQ K "_law_mark" "_law_mark" ni jw wH
 AG : mg "_law_mark" = some (.ref jw)
 rH : Binds K wH ["_law_place", "_law_told", "_law_goals_here", "_law_aside"] []
 jx : Addr
 wI : FuncData
 oy : aQ K "_law_beyond" "_law_beyond" nj jx wI
 Jq : mg "_law_beyond" = some (.ref jx)
 wJ : Binds K wI ["_law_paper", "_law_told", "_law_known", "_law_aside"] []
 jy : Addr
 wK : FuncData
 oz : aQ K "_law_refutes" "_law_refutes" nk jy wK
 Jr : mg "_law_refutes" = some (.ref jy)
 wL : Binds K wK ["_law_paper", "_law_told", "_law_known", "_law_aside"] []
 jz : Addr
 wM : FuncData
 oA : aQ K "_law_right" "_law_right" nq jz wM
 Js : mg "_law_right" = some (.ref jz)
 wN : Binds K wM ["_law_answer", "_law_shape_here", "_law_told", "_law_claim"] []
 jA : Addr
 wO : FuncData
 oB : aQ K "_law_parts" "_law_parts" nr jA wO
 Jt : mg "_law_parts" = some (.ref jA)
 wQ : Binds K wO ["_law_script", "_law_shape_here", "_law_course_here"] []
 jB : Addr
 wR : FuncData
 oE : aQ K "_law_odd" "_law_odd" nu jB wR
 Ju : mg "_law_odd" = some (.ref jB)
 wU : Binds K wR ["_law_script", "_law_shape_here", "_law_claim"] []
 jC : Addr
 wV : FuncData
 oF : aQ K "_law_refused" "_law_refused" nv jC wV
 Jv : mg "_law_refused" = some (.ref jC)
 wW : Binds K wV ["_law_board", "_law_claim"] []
 gi : Addr
 rJ : FuncData
 rK : aQ K "law" "law" e9 gi rJ
 RL : mg "law" = some (.ref gi)
 AH : Binds K rJ ["_law_script"] []
 Jw : mg "ValueError" = none
 Jx : mg "bool" = none
 rL : mg "enumerate" = none
 Jy : mg "int" = none
 ck : mg "isinstance" = none
 cz : mg "len" = none
 wX : mg "list" = none
 AI : mg "max" = none
 kN : mg "min" = none
 dS : mg "range" = none
 Jz : mg "reversed" = none
 JA : mg "set" = none
 AJ : mg "sorted" = none
 wY : mg "tuple" = none
 JB : mg "zip" = none
 gj : Addr
 JC : mg "GazeError" = some (.ref gj)
 jD : Addr
 JD : mg "NoRatio" = some (.ref jD)
 jE : Addr
 JE : mg "NoStretch" = some (.ref jE)
 jF : Addr
 JF : mg "NoGauge" = some (.ref jF)
 jG : Addr
 JG : mg "OffGauge" = some (.ref jG)
 jH : Addr
 JH : mg "NoSills" = some (.ref jH)
 cZ : Addr
 rM : mg "NoBoard" = some (.ref cZ)
 dH : Addr
 JI : mg "NoTelling" = some (.ref dH)
 aU : Addr
 AK : mg "NoClaim" = some (.ref aU)
 jI : Addr
 JJ : mg "NoEvent" = some (.ref jI)
 jJ : Addr
 JK : mg "TooMany" = some (.ref jJ)
 jK : Addr
 JL : mg "NoRule" = some (.ref jK)
 jL : Addr
 JM : mg "NoAlarm" = some (.ref jL)
 jM : Addr
 JN : mg "NoRow" = some (.ref jM)
 jN : Addr
 JO : mg "NoName" = some (.ref jN)
 bf : Addr
 JP : mg "Board" = some (.ref bf)
 b9 : eK K bf
 kO : eL K bf "eyes"
 gM : eL K bf "turns"
 kP : eL K bf "up"
 kQ : eL K bf "down"
 gN : eL K bf "most"
 kR : eL K bf "told"
 oG : Mk K bf i9
 wZ : Meth K bf "has_turn" ja
 w9 : Meth K bf "tellings" jb
 xa : XC K cZ
 RM : XC K dH
 c8 : XC K aU
 JQ : PySem.W.exmOne K (.ref aU) (.ref gj) = some true
 JR : PySem.W.kitOne K (.ref aU) (.ref aU) = some true
 JS : PySem.W.kitOne K (.ref aU) (.type "ValueError") = some true
 JT : PySem.W.kitOne K (.ref aU) (.ref dH) = some false
 JU : PySem.W.kitOne K (.ref aU) (.ref jN) = some false
 JV : PySem.W.kitOne K (.ref aU) (.ref jE) = some false
 JW : PySem.W.kitOne K (.ref aU) (.ref cZ) = some false
 JX : PySem.W.kitOne K (.ref aU) (.ref jI) = some false
 JY : PySem.W.kitOne K (.ref aU) (.ref jM) = some false
 JZ : PySem.W.kitOne K (.ref aU) (.ref jD) = some false
 J0 : PySem.W.kitOne K (.ref aU) (.ref jF) = some false
 J1 : PySem.W.kitOne K (.ref aU) (.ref jG) = some false
 J5 : PySem.W.kitOne K (.ref aU) (.ref jK) = some false
 J6 : PySem.W.kitOne K (.ref aU) (.ref jH) = some false
 J9 : PySem.W.kitOne K (.ref aU) (.ref jJ) = some false
 Ka : PySem.W.kitOne K (.ref aU) (.ref jL) = some false
 Kb : ∃ t, mg "EYES_AT_MOST" = some (.int 7 t)
 Kc : ∃ t, mg "TURNS_AT_MOST" = some (.int 12 t)
set_option genInjectivity true
set_option genSizeOf true
section
seal L2.PE L2.PS L2.bg L2.PA
variable {P : Program} {w : World} {K : PySem.W.Frag} {mg : Str -> Option Value} {base : Heap}
noncomputable def RN (K : PySem.W.Frag) : Sp := fun vs H Q _ => ∃ (a : Addr) (ns : List Int) (k m : Int), vs = [.ref a, .int k, .int m] /\ ah K H a (ns.map V.int) /\ eW ns /\ (-1000000 <= k /\ k <= 1000000) /\ 0 < m /\ ∀ p : Int, 0 <= p -> p < m -> Q (.int p) H
theorem bY (T : Tx K mg) : aJ P w K mg base (aK P w) 1 T.jc T.vX ["_law_script", "_law_k", "_law_many"] (RN K) := by
 refine okN T.bG Ap (fun vs H Q E h => ?_) (fun aI A outer s H vs Q E hr h => ?_)
 ·obtain ⟨a, ns, k, m, rfl, _⟩ := h
  rfl
 ·obtain ⟨a, ns, k, m, rfl, hS, hn, hk, hm, q⟩ := h
  refine ⟨_, (aj (az (i := 3) Ap.nd rfl (Or.inl rfl) ae)
  (aj (aN (aX fm (a6 cD (by rfl) T.cz cE (aa (pv 0) af)) ae (aR _)) (av (az (i := 3) Ap.nd rfl (Or.inl rfl) (ak ao (pv 0) (aA gu (pv 1) (a6 cD (by rfl) T.cz cE (aa (pv 0) af))) (fun _ _ => rfl)))) aO)
  (av (aG (aA gu (aA gu (aA gu (aA qI (aA a5 (pv 3) ae) (aA a5 (aA a5 (pv 3) ae) (aA qI (pv 1) (pv 1)))) ae) ae) (pv 2)))))), ?_⟩
  walk_at "gz"
  refine ⟨_, dg hS, ?_⟩
  rw [List.length_map]
  have pm := Pu hn hk
  have fin : ∀ x : Int, Q (.int (x % 2147483629 % 999983 % m)) H := fun x => q _ (Int.emod_nonneg _ (by omega)) (Int.emod_lt_of_pos _ hm)
  split
  ·rename_i h
   refine ⟨_, dg hS, ?_⟩
   rw [List.length_map]
   refine ⟨h, aL hS (HC h) ?_⟩
   walk_at "gz"
   exact ⟨pm.1, pm.2, by decide, by decide, hm, fin _⟩
  ·rename_i h
   have e : dP ns k = 0 := if_neg h
   rw [e] at pm
   exact ⟨pm.1, pm.2, by decide, by decide, hm, fin _⟩
noncomputable def RO (K : PySem.W.Frag) : Sp := fun vs H Q _ => ∃ (a : Addr) (ns : List Int) (k m : Int), vs = [.ref a, .int k, .int m] /\ ah K H a (ns.map V.int) /\ eW ns /\ (-1000000 <= k /\ k <= 1000000) /\ 0 < m /\ ∀ p : Int, 0 <= p -> p < m -> Q (.int p) H
theorem xb (T : Tx K mg) : aJ P w K mg base (aK P w) 2 T.jd T.vY ["_law_script", "_law_k", "_law_many"] (RO K) := by
 refine okN T.gL Aq (fun vs H Q E h => ?_) (fun aI A outer s H vs Q E hr h => ?_)
 ·obtain ⟨a, ns, k, m, rfl, _⟩ := h
  rfl
 ·obtain ⟨a, ns, k, m, rfl, hS, hn, hk, hm, q⟩ := h
  refine ⟨_, (aj (az (i := 3) Aq.nd rfl (Or.inl rfl) ae)
  (aj (aN (aX fm (a6 cD (by rfl) T.cz cE (aa (pv 0) af)) ae (aR _)) (av (az (i := 3) Aq.nd rfl (Or.inl rfl) (ak ao (pv 0) (aA gu (pv 1) (a6 cD (by rfl) T.cz cE (aa (pv 0) af))) (fun _ _ => rfl)))) aO)
  (av (aG (aA gu (aA a5 (aE (bY T) (hr.mono (by decide)) rfl T.bT T.bG.kp T.bO .nil aC (aa (pv 0) (aa (pv 1) (aa ae af)))) (aA qI (aA qI (aA qI ae (pv 3)) (pv 3)) (pv 3))) (pv 2)))))), ?_⟩
  walk_at "gz"
  refine ⟨_, dg hS, ?_⟩
  rw [List.length_map]
  have pm := Pw hn k
  have fin : ∀ x : Int, Q (.int (x % m)) H := fun x => q _ (Int.emod_nonneg _ (by omega)) (Int.emod_lt_of_pos _ hm)
  split
  ·rename_i h
   refine ⟨_, dg hS, ?_⟩
   rw [List.length_map]
   refine ⟨h, aL hS (HC h) ?_⟩
   walk_at "gz"
   refine ⟨a, ns, k, 999983, rfl, hS, hn, hk, by decide, fun p _ _ => ?_⟩
   walk_at "gz"
   exact ⟨pm.1, pm.2.1, pm.2.2, hm, fin _⟩
  ·rename_i h
   have e : dP ns k = 0 := if_neg h
   rw [e] at pm
   refine ⟨a, ns, k, 999983, rfl, hS, hn, hk, by decide, fun p _ _ => ?_⟩
   walk_at "gz"
   exact ⟨pm.1, pm.2.1, pm.2.2, hm, fin _⟩
noncomputable def RP : Sp := fun vs H Q _ => ∃ (v : V), vs = [v] /\ (v = .non ∨ ∃ i, v = .int i) /\ Q (.bl (isWhole v)) H
theorem AL (T : Tx K mg) : aJ P w K mg base (aK P w) 1 T.ji T.wg ["_law_found"] RP := by
 refine okN T.jk RF (fun vs H Q E h => ?_) (fun aI A outer s H vs Q E hr h => ?_)
 ·obtain ⟨v, rfl, _⟩ := h
  rfl
 ·obtain ⟨v, rfl, hv, q⟩ := h
  refine ⟨_, (av (aG (eI (a6 lL (by rfl) T.ck cq (aa (pv 0) (aa (jV (v := .ty "int") rfl T.Jy NN rfl) af))) (fL (Ml (a6 lL (by rfl) T.ck cq (aa (pv 0) (aa (jV (v := .ty "bool") rfl T.Jx NO rfl) af)))))))), ?_⟩
  rcases hv with rfl | ⟨i, rfl⟩
  ·walk_at "gz"
   exact q
  ·walk_at "gz"
   exact q
noncomputable def RQ : Sp := fun vs H Q _ => ∃ (a b : En), vs = [ev a, ev b] /\ Q (.bl (ba a b)) H
theorem RS (T : Tx K mg) : aJ P w K mg base (aK P w) 1 T.iD T.uR ["lo", "hi"] RQ := by
 refine okN T.nE Rn (fun vs H Q E h => ?_) (fun aI A outer s H vs Q E hr h => ?_)
 ·obtain ⟨a, b, rfl, _⟩ := h
  rfl
 ·obtain ⟨a, b, rfl, q⟩ := h
  refine ⟨_, (av (aG (eI (oW (cC (pv 0))) (eI (oW (cC (pv 1))) (fL (eJ fm (pv 0) (pv 1) (aR _))))))), ?_⟩
  rcases a with _ | x
  ·walk_at "gz"
   exact q
  rcases b with _ | y
  ·walk_at "gz"
   exact q
  walk_at "gz"
  exact q
noncomputable def RT : Sp := fun vs H Q _ => ∃ (v u : V) (a b c d : En), vs = [v, u] /\ bb H v a b /\ bb H u c d /\ ∀ x H', aw H H' -> Hg H' x (cv a c) (cw b d) -> Q x H'
theorem AM (T : Tx K mg) : aJ P w K mg base (aK P w) 2 T.iE T.uT ["one", "other"] RT := by
 refine okN T.iF Am (fun vs H Q E h => ?_) (fun aI A outer s H vs Q E hr h => ?_)
 ·obtain ⟨v, u, a, b, c, d, rfl, _⟩ := h
  rfl
 ·obtain ⟨v, u, a, b, c, d, rfl, ⟨p, rfl, hp⟩, ⟨r, rfl, eA⟩, q⟩ := h
  refine ⟨_, (aj (az (i := 2) Am.nd rfl (Or.inl rfl) (OD rfl rfl T.AI (eU (cP.mk (fr := []) (ys := []) rfl (by decide +kernel) rfl (by decide +kernel) rfl rfl .nil .nil (by decide) rfl) rfl (yF (aY (aa (ak ao (pv 0) ae (fun _ _ => rfl)) (aa (ak ao (pv 1) ae (fun _ _ => rfl)) af)))) (fun C s2 H2 ex pn => ⟨(ke (bp (cC (pv 0)))), (pv 0)⟩)) bA))
  (aj (az (i := 3) Am.nd rfl (Or.inl rfl) (OE rfl rfl T.kN (eU (cP.mk (fr := []) (ys := []) rfl (by decide +kernel) rfl (by decide +kernel) rfl rfl .nil .nil (by decide) rfl) rfl (yF (aY (aa (ak ao (pv 0) ae (fun _ _ => rfl)) (aa (ak ao (pv 1) ae (fun _ _ => rfl)) af)))) (fun C s2 H2 ex pn => ⟨(ke (bp (cC (pv 0)))), (pv 0)⟩)) bA))
  (aj (aN (dY (aE (RS T) (hr.mono (by decide)) rfl T.IP T.nE.kp T.uS .nil aC (aa (pv 2) (aa (pv 3) af)))) (av (aG bA)) aO)
  (av (aG (aY (aa (pv 2) (aa (pv 3) af)))))))), ?_⟩
  walk_at "gz"
  refine aF (ai.of hp) rfl (aF (ai.of eA) rfl ?_)
  walk_at "gz"
  refine ⟨bo, fun t ht => ⟨⟨_, ai.of aq⟩, Hh aq (fun x H Q h => ?_) (fun x H Q h => ?_) fun l hl => ?_⟩⟩
  ·walk_at "gz"
   exact h
  ·walk_at "gz"
   exact h
  refine ⟨l, rfl, nums a c, ah.of aq, ?_⟩
  rw [OQ]
  have s2 := (au (o := .tup [ev a, ev c]) ht).trans (au (o := .lst ((nums a c).map V.int)) hl)
  generalize upd (upd H t (.tup [ev a, ev c])) l (.lst ((nums a c).map V.int)) = H2 at s2 ⊢
  refine aF (ai.of (s2 _ _ hp)) rfl (aF (ai.of (s2 _ _ eA)) rfl ?_)
  walk_at "gz"
  refine ⟨bo, fun t' RU => ⟨⟨_, ai.of aq⟩, Hh aq (fun x H Q h => ?_) (fun x H Q h => ?_) fun l' yx => ?_⟩⟩
  ·walk_at "gz"
   exact h
  ·walk_at "gz"
   exact h
  refine ⟨l', rfl, nums b d, ah.of aq, ?_⟩
  rw [OR]
  have s3 := s2.trans ((au (o := .tup [ev b, ev d]) RU).trans (au (o := .lst ((nums b d).map V.int)) yx))
  generalize upd (upd H2 t' (.tup [ev b, ev d])) l' (.lst ((nums b d).map V.int)) = H3 at s3 ⊢
  refine ⟨_, _, rfl, ?_⟩
  cases hc : ba (cv a c) (cw b d) with
  | true =>
   walk_at "gz"
   exact q _ _ s3 ⟨fun _ => rfl, fun z => nomatch hc.symm.trans z⟩
  | false =>
   walk_at "gz"
   exact ⟨bo, fun p' cQ => q _ _ (s3.trans (au cQ)) ⟨fun z => (nomatch hc.symm.trans z), fun _ => bb.new⟩⟩
noncomputable def eB (e t u d m : Int) : Prop := (1 <= e /\ e <= 7) /\ (1 <= t /\ t <= 12) /\ 0 <= u /\ 0 <= d /\ 0 <= m /\ m <= e
noncomputable def Kd (e t u d m : Int) (p : Addr) : List (Str × V) := [("eyes", .int e), ("turns", .int t), ("up", .int u), ("down", .int d), ("most", .int m), ("told", .ref p)]
noncomputable def RV (B C : Addr) : Sp := fun vs H Q E => ∃ (x dx : Addr) (e t u d m : Int), vs = [.ref x, .int e, .int t, .int u, .int d, .int m] /\ H x = some (.ins B dx []) /\ (¬ eB e t u d m -> E (.ref C) none H) /\
 (eB e t u d m -> ∀ p H', H p = none -> SameBut x H H' -> H' x = some (.ins B dx (Kd e t u d m p)) -> H' p = some (.dT []) -> Q .non H')
theorem RW (T : Tx K mg) : aJ P w K mg base (aK P w) 1 T.i9 T.vT ["self", "eyes", "turns", "up", "down", "most"] (RV T.bf T.cZ) := by
 refine dJ T.rC RB (fun vs H Q E h => ?_) (fun aI A outer s H vs Q E hr h => ?_)
 ·obtain ⟨x, dx, e, t, u, d, m, rfl, _⟩ := h
  rfl
 ·obtain ⟨x, dx, e, t, u, d, m, rfl, hx, q0, q⟩ := h
  refine ⟨_, (aj (aN (PW.pt (cG (dI (sx fk fk ae (pv 1) (HH T.Kb rfl))) (dc (dI (sx fk fk ae (pv 2) (HH T.Kc rfl)))))) (av (tG tI rfl T.rM T.xa rfl (aa bq af))) aO)
  (aj (aN (PW.pt (cG (aX fP (pv 3) ae (aR _)) (dc (aX fP (pv 4) ae (aR _))))) (av (tG tI rfl T.rM T.xa rfl (aa bq af))) aO)
  (aj (aN (dI (sx fk fk ae (pv 5) (pv 1))) (av (tG tI rfl T.rM T.xa rfl (aa bq af))) aO)
  (aj (lE (pv 0) (pv 1) rfl)
  (aj (lE (pv 0) (pv 2) rfl)
  (aj (lE (pv 0) (pv 3) rfl)
  (aj (lE (pv 0) (pv 4) rfl)
  (aj (lE (pv 0) (pv 5) rfl)
  (av (lE (pv 0) HG rfl)))))))))), ?_⟩
  walk_at "gz"
  have no : ∀ D σ, ¬ eB e t u d m -> ∀ x, GQ T.cZ E (lF (tC (.str x)) j4) D σ H := fun D σ z x => ⟨by show 1 <= sizeLine; decide, q0 z⟩
  refine bz (fun h1 => bz (fun h2 => no _ _ (fun z => by unfold eB at z; omega) _) fun h2 => ?_) fun h1 => no _ _ (fun z => by unfold eB at z; omega) _
  refine bz (fun h3 => bz (fun h4 => no _ _ (fun z => by unfold eB at z; omega) _) fun h4 => ?_) fun h3 => no _ _ (fun z => by unfold eB at z; omega) _
  refine bz (fun h5 => no _ _ (fun z => by unfold eB at z; omega) _) fun h5 => bz (fun h6 => no _ _ (fun z => by unfold eB at z; omega) _) fun h6 => ?_
  refine bz (fun h7 => bz (fun h8 => no _ _ (fun z => by unfold eB at z; omega) _) fun h8 => ?_) fun h7 => no _ _ (fun z => by unfold eB at z; omega) _
  replace q := q (by unfold eB; omega)
  refine ⟨_, _, _, hx, T.b9, T.kO, (by show 0 < 1000; decide), _, _, _, aq, T.b9, T.gM, (by show 1 < 1000; decide), _, _, _, aq, T.b9, T.kP, (by show 2 < 1000; decide), _, _, _, aq, T.b9, T.kQ, (by show 3 < 1000; decide), _, _, _, aq, T.b9, T.gN, (by show 4 < 1000; decide), ?_⟩
  rw [r9, r9, r9, r9]
  intro p hp
  have Ke : p ≠ x := fun z => by rw [z, aq] at hp; cases hp
  refine ⟨_, _, _, (au hp) _ _ aq, T.b9, T.kR, (by show 5 < 1000; decide), q p _ (by rw [aH Ke] at hp; exact hp) (fun b o hb e => ?_) aq ?_⟩
  ·rw [aH hb]
   exact (au hp) _ _ (by rw [aH hb]; exact e)
  ·rw [aH Ke, aq]
structure dU (B : Addr) (H : Hp) (x : Addr) (e t u d m : Int) (p : Addr) (kvs : List (List Key × V)) : Prop where
 ob : ∃ dx, H x = some (.ins B dx (Kd e t u d m p))
 tb : H p = some (.dT kvs)
theorem dU.same {B : Addr} {H H' : Hp} {x p : Addr} {e t u d m : Int} {kvs : List (List Key × V)} (h : dU B H x e t u d m p kvs) (s : aw H H') : dU B H' x e t u d m p kvs := let ⟨⟨dx, a⟩, b⟩ := h; ⟨⟨dx, s _ _ a⟩, s _ _ b⟩
noncomputable def RX (B : Addr) : Sp := fun vs H Q _ => ∃ (x p : Addr) (e t u d m i : Int) (kvs : List (List Key × V)), vs = [.ref x, .int i] /\ dU B H x e t u d m p kvs /\ Q (.bl (decide (0 <= i /\ i < t))) H
theorem AN (T : Tx K mg) : aJ P w K mg base (aK P w) 1 T.ja T.vV ["self", "turn"] (RX T.bf) := by
 refine okN T.rD RC (fun vs H Q E h => ?_) (fun aI A outer s H vs Q E hr h => ?_)
 ·obtain ⟨x, p, e, t, u, d, m, i, kvs, rfl, _⟩ := h
  rfl
 ·obtain ⟨x, p, e, t, u, d, m, i, kvs, rfl, ⟨⟨dx, hx⟩, hp⟩, q⟩ := h
  refine ⟨_, (av (aG (FZ fk fP ae (pv 1) (gv (pv 0) rfl)))), ?_⟩
  walk_at "gz"
  refine bz (fun h1 => ?_) fun h1 => ?_
  ·refine ⟨_, _, _, hx, T.b9, T.gM, _, rfl, ?_⟩
   walk_at "gz"
   rw [show decide (0 <= i /\ i < t) = decide (i < t) by simp [h1]] at q
   exact q
  ·rw [show decide (0 <= i /\ i < t) = false by simp [h1]] at q
   exact q
end
section
seal L2.PE L2.PS L2.bg L2.PA
variable {P : Program} {w : World} {K : PySem.W.Frag} {mg : Str -> Option Value} {base : Heap}
noncomputable def RY (K : PySem.W.Frag) : Sp := fun vs H Q _ => ∃ (a : Addr) (xs : List V) (ss : List S2), vs = [.ref a] /\ ah K H a xs /\ fw H xs ss /\ xs.length <= 1000 /\ ∀ v H', aw H H' -> bN H' v (cF (none, none) ss) -> Q v H'
noncomputable def RZ (K : PySem.W.Frag) (H : Hp) (a : Addr) (xs : List V) (ss : List S2) (i : Nat) (σ : St) (H1 : Hp) : Prop := ∃ (v : V) (e : Option V), σ = [some (.ref a), some v, e] /\ aw H H1 /\ bb H1 v (bh (none, none) (ss.take i)).1 (bh (none, none) (ss.take i)).2 /\ ba (bh (none, none) (ss.take i)).1 (bh (none, none) (ss.take i)).2 = false
theorem AO (T : Tx K mg) : aJ P w K mg base (aK P w) 3 T.iG T.uV ["some"] (RY K) := by
 refine okN T.iH uO (fun vs H Q E h => ?_) (fun aI A outer s H vs Q E hr h => ?_)
 ·obtain ⟨a, xs, ss, rfl, _⟩ := h
  rfl
 ·obtain ⟨a, xs, ss, rfl, hS, hP, hn, q⟩ := h
  refine ⟨_, (aj (az (i := 1) uO.nd rfl (Or.inl rfl) (aY (aa bA (aa bA af))))
  (aj (cI PassesOwn.never rfl (ec (pv 0)) (bc (i := 2) uO.nd rfl (Or.inl rfl)) (aj (az (i := 1) uO.nd rfl (Or.inl rfl) (aE (AM T) (hr.mono (by decide)) rfl T.uU T.iF.kp T.nF .nil aC (aa (pv 1) (aa (pv 2) af))))
    (av (aN (bp (bZ (pv 1))) (av (aG bA)) aO))))
  (av (aG (pv 1))))), ?_⟩
  have hA := ir.mp hP
  have hl := hA.len
  walk_at "gz"
  refine ⟨bo, fun p hp => ?_⟩
  have s0 := au (o := .tup [.non, .non]) hp
  refine ⟨⟨_, s0.seq hS⟩, g8 (xs := xs) (RZ K H a xs ss) ⟨_, _, rfl, s0, ⟨p, rfl, aq⟩, rfl⟩ ?_ ?_ ?_⟩
  ·rintro i σ H1 _ ⟨_, _, _, s1, _⟩
   exact s1.seq hS
  ·rintro i x σ H1 hx ⟨v, e, rfl, s1, hv, hc⟩
   obtain ⟨w, hw, r⟩ := hA.get hx
   have e1 := PQ (e := (none, none)) hw
   walk_at "gz"
   refine ⟨v, x, _, _, w.1, w.2, rfl, hv, r.same s1, fun y H2 s2 hm => ?_⟩
   have uH : Hg H2 y (bh (none, none) (ss.take (i + 1))).1 (bh (none, none) (ss.take (i + 1))).2 := by rw [e1]; exact hm
   cases hk : ba (bh (none, none) (ss.take (i + 1))).1 (bh (none, none) (ss.take (i + 1))).2 with
   | true =>
    have ey := uH.1 hk
    subst ey
    walk_at "gz"
    refine q _ _ (s1.trans s2) ?_
    unfold cF
    rw [if_pos (PN hk)]
    rfl
   | false =>
    have hy := uH.2 hk
    obtain ⟨t, rfl, ht⟩ := id hy
    walk_at "gz"
    exact ⟨_, _, rfl, s1.trans s2, hy, hk⟩
  ·rintro σ H1 ⟨v, e, rfl, s1, hv, hc⟩
   walk_at "gz"
   rw [hl, List.take_length] at hv hc
   refine q _ _ s1 ?_
   unfold cF
   rw [if_neg (by rw [hc]; simp)]
   exact hv
noncomputable def R0 (B : Addr) : Sp := fun vs H Q _ => ∃ (x p : Addr) (e t u d m i : Int) (k : Str) (kvs : List (List Key × V)), vs = [.ref x, .str k, .int i] /\ dU B H x e t u d m p kvs /\ Q (.bl (hasB t k i)) H
theorem R1 (T : Tx K mg) : aJ P w K mg base (aK P w) 2 T.iT T.vt ["board", "kind", "turn"] (R0 T.bf) := by
 refine okN T.nO Rt (fun vs H Q E h => ?_) (fun aI A outer s H vs Q E hr h => ?_)
 ·obtain ⟨x, p, e, t, u, d, m, i, k, kvs, rfl, _⟩ := h
  rfl
 ·obtain ⟨x, p, e, t, u, d, m, i, k, kvs, rfl, hb, q⟩ := h
  refine ⟨_, (aj (aN (aX bJ (pv 1) bq (aR _)) (av (aG (eI (yN (pv 0) T.b9 T.wZ (AN T) (hr.mono (by decide)) T.nZ .nil aC (aa (pv 2) af)) (fL (yN (pv 0) T.b9 T.wZ (AN T) (hr.mono (by decide)) T.nZ .nil aC (aa (aA a5 (pv 2) ae) af)))))) aO)
  (av (aG (eI (eJ bJ (pv 1) bq (aR _)) (fL (yN (pv 0) T.b9 T.wZ (AN T) (hr.mono (by decide)) T.nZ .nil aC (aa (pv 2) af))))))), ?_⟩
  obtain ⟨⟨dx, hx⟩, hp⟩ := id hb
  unfold hasB at q
  walk_at "gz"
  try refine ⟨rfl, ?_⟩
  by_cases hk : k = "step"
  ·subst hk
   rw [if_pos rfl] at q ⊢
   refine ⟨_, _, hx, rfl, x, p, e, t, u, d, m, i, kvs, rfl, hb, ?_⟩
   by_cases h1 : 0 <= i /\ i < t
   ·rw [decide_eq_true h1] at q ⊢
    walk_at "gz"
    refine ⟨_, _, hx, rfl, x, p, e, t, u, d, m, _, kvs, rfl, hb, ?_⟩
    rw [Bool.true_and] at q
    exact q
   ·rw [decide_eq_false h1] at q ⊢
    walk_at "gz"
    exact q
  ·rw [if_neg hk] at q
   rw [if_neg fun z => hk (V.str.inj z)]
   try refine ⟨rfl, ?_⟩
   by_cases ky : k = "at"
   ·subst ky
    rw [decide_eq_true rfl, Bool.true_and] at q
    rw [if_pos rfl]
    refine ⟨_, _, hx, rfl, x, p, e, t, u, d, m, i, kvs, rfl, hb, ?_⟩
    exact q
   ·rw [decide_eq_false ky, Bool.false_and] at q
    rw [if_neg fun z => ky (V.str.inj z)]
    exact q
noncomputable def R4 (K : PySem.W.Frag) (B C : Addr) : Sp := fun vs H Q E => ∃ (x p b : Addr) (e t u d m : Int) (kvs : List (List Key × V)) (xs : List V) (ps : List Pa), vs = [.ref x, .ref b] /\ dU B H x e t u d m p kvs /\ ah K H b xs /\ bX H xs ps /\ (¬ di t ps -> E (.ref C) none H) /\ (di t ps -> Q .non H)
noncomputable def R5 (H : Hp) (x b : Addr) (t : Int) (ps : List Pa) (i : Nat) (σ : St) (H1 : Hp) : Prop := ∃ (e : Option V), σ = [some (.ref x), some (.ref b), e] /\ H1 = H /\ di t (ps.take i)
theorem Kf (T : Tx K mg) : aJ P w K mg base (aK P w) 3 T.iU T.vw ["board", "claim"] (R4 K T.bf T.aU) := by
 refine dJ T.kF IJ (fun vs H Q E h => ?_) (fun aI A outer s H vs Q E hr h => ?_)
 ·obtain ⟨x, p, b, e, t, u, d, m, kvs, xs, ps, rfl, _⟩ := h
  rfl
 ·obtain ⟨x, p, b, e, t, u, d, m, kvs, xs, ps, rfl, hb, hX, hP, q0, q⟩ := h
  refine ⟨_, (av (cI PassesOwn.leaving rfl (ec (pv 1)) (bc (i := 2) IJ.nd rfl (Or.inl rfl)) (av (aN (dI (dY (aE (R1 T) (hr.mono (by decide)) rfl T.IW T.nO.kp T.vv .nil aC (aa (pv 0) (aa (ak ao (pv 2) ae (fun _ _ => rfl)) (aa (ak ao (pv 2) ae (fun _ _ => rfl)) af)))))) (av (tG tI rfl T.AK T.c8 rfl (aa bq af))) aO)))), ?_⟩
  have hl := hP.len
  walk_at "gz"
  refine ⟨⟨_, hX⟩, g8 (xs := xs) (R5 H x b t ps) ⟨_, rfl, rfl, fun _ h => by simp at h⟩ ?_ ?_ ?_⟩
  ·rintro i σ H1 _ ⟨_, _, rfl, _⟩
   exact hX
  ·rintro i y σ H1 hy ⟨e1, rfl, rfl, hk⟩
   obtain ⟨pa, hpa, ta, qa, rfl, h1, h2⟩ := hP.get hy
   walk_at "gz"
   refine aF (ai.of h1) rfl (aF (ai.of h1) rfl ?_)
   refine ⟨x, p, e, t, u, d, m, pa.2.1, pa.1, kvs, rfl, hb, ?_⟩
   cases hc : hasB t pa.1 pa.2.1 with
   | true =>
    walk_at "gz"
    refine ⟨_, rfl, rfl, fun z hz => ?_⟩
    rw [List.take_succ, hpa] at hz
    rcases List.mem_append.mp hz with h | h
    ·exact hk z h
    ·have : z = pa := by simpa using h
     rw [this]; exact hc
   | false =>
    walk_at "gz"
    refine ⟨by decide, q0 fun z => ?_⟩
    rw [z pa (List.mem_of_getElem? hpa)] at hc
    cases hc
  ·rintro σ H1 ⟨e1, rfl, rfl, hk⟩
   rw [hl, List.take_length] at hk
   walk_at "gz"
   exact q hk
noncomputable def R6 (K : PySem.W.Frag) : Sp := fun vs H Q _ => ∃ (b : Addr) (xs : List V) (ps : List Pa) (k : Str) (t : Int), vs = [.ref b, .str k, .int t] /\ ah K H b xs /\ bX H xs ps /\ ps.length <= 1000 /\ ∀ l ys H', aw H H' -> H l = none -> H' l = some (.lst ys) -> fw H' ys (sel ps k t) -> Q (.ref l) H'
theorem Kg (T : Tx K mg) : aJ P w K mg base (aK P w) 1 T.iV T.vx ["claim", "kind", "turn"] (R6 K) := by
 refine okN T.kG Ru (fun vs H Q E h => ?_) (fun aI A outer s H vs Q E hr h => ?_)
 ·obtain ⟨b, xs, ps, k, t, rfl, _⟩ := h
  rfl
 ·obtain ⟨b, xs, ps, k, t, rfl, hX, hP, hn, q⟩ := h
  refine ⟨_, (av (aG (eU (cP.mk (fr := [1, 2]) (ys := ["kind", "turn"]) rfl (by decide +kernel) rfl (by decide +kernel) rfl rfl (.cons rfl (.cons rfl .nil)) (.cons rfl rfl rfl rfl (.cons rfl rfl rfl rfl .nil)) (by decide) rfl) rfl (ec (pv 0)) (fun C s2 H2 ex pn => ⟨(ke (PW.pt (du (aX bJ (ak (fv (K := K) rfl) (pv 0) ae (fun _ _ => rfl)) (pv 1) (aR _)) (dZ (aX bJ (ak (fv (K := K) rfl) (pv 0) ae (fun _ _ => rfl)) (pv 2) (aR _)))))), (ak (fv (K := K) rfl) (pv 0) ae (fun _ _ => rfl))⟩)))), ?_⟩
  have hl := hP.len
  walk_at "gz"
  refine ⟨⟨_, hX⟩, eV zx (Nat.le_trans (by omega : xs.length <= 1000) (by decide)) (uv (R := fun x p => eX H x p) (R' := fun y (s : S2) => bb H y s.1 s.2) (p := fU k t) (f := fun p => p.2.2) hX hP (fun x p r Q h => ?_) (fun x p _ r Q h => ?_) fun zs hz => ?_)⟩
  ·obtain ⟨tt, u, rfl, ht, hu⟩ := r
   unfold fU at h
   walk_at "gz"
   refine aF (ai.of ht) rfl ?_
   walk_at "gz"
   try refine ⟨rfl, ?_⟩
   by_cases hk : p.1 = k
   ·rw [decide_eq_true hk, Bool.true_and] at h
    rw [if_pos (by rw [hk])]
    refine aF (ai.of ht) rfl ?_
    walk_at "gz"
    exact h
   ·rw [decide_eq_false hk, Bool.false_and] at h
    rw [if_neg fun z => hk (V.str.inj z)]
    exact h
  ·obtain ⟨tt, u, rfl, ht, hu⟩ := r
   walk_at "gz"
   exact aF (ai.of ht) rfl (h _ ⟨u, rfl, hu⟩)
  ·rw [List.nil_append]
   intro l bV
   exact q l zs _ (au bV) bV aq (ir.mpr (hz.imp fun _ _ r => r.same (au bV)))
noncomputable def c9 (u d : Int) (ps : List Pa) (n : Nat) : List W2 := (List.range n).map fun (k : Nat) => cF (none, none) ((some (-d), some u) :: sel ps "step" (k : Int))
noncomputable def R7 (K : PySem.W.Frag) (B C : Addr) : Sp := fun vs H Q E => ∃ (x p b : Addr) (e t u d m : Int) (kvs : List (List Key × V)) (xs : List V) (ps : List Pa), vs = [.ref x, .ref b] /\ dU B H x e t u d m p kvs /\ 1 <= t /\ t <= 12 /\ ah K H b xs /\ bX H xs ps /\ ps.length <= 900 /\ (¬ di t ps -> E (.ref C) none H) /\ (di t ps -> ∀ l ys H', aw H H' -> H l = none -> H' l = some (.lst ys) -> ay (bN H') ys (c9 u d ps (t - 1).toNat) -> Q (.ref l) H')
theorem R8 (T : Tx K mg) : aJ P w K mg base (aK P w) 4 T.iW T.vy ["board", "claim"] (R7 K T.bf T.aU) := by
 refine dJ T.nP IK (fun vs H Q E h => ?_) (fun aI A outer s H vs Q E hr h => ?_)
 ·obtain ⟨x, p, b, e, t, u, d, m, kvs, xs, ps, rfl, _⟩ := h
  rfl
 ·obtain ⟨x, p, b, e, t, u, d, m, kvs, xs, ps, rfl, hb, t1, t2, hX, hP, hn, q0, q⟩ := h
  refine ⟨_, (aj (gR (aE (Kf T) (hr.mono (by decide)) rfl T.Ay T.kF.kp T.rn .nil tJ (aa (pv 0) (aa (pv 1) af))))
  (aj (az (i := 2) IK.nd rfl (Or.inr rfl) (cN (aa (aY (aa (dw dz (gv (pv 0) rfl)) (aa (gv (pv 0) rfl) af))) af)))
  (av (aG (eU (cP.mk (fr := [2, 1]) (ys := ["own", "claim"]) rfl (by decide +kernel) rfl (by decide +kernel) rfl rfl (.cons rfl (.cons rfl .nil)) (.cons rfl rfl rfl rfl (.cons rfl rfl rfl rfl .nil)) (by decide) rfl) rfl (fh rfl T.dS (aa (aA cU (gv (pv 0) rfl) ae) af)) (fun C s2 H2 ex pn => ⟨gE, (aE (AO T) (hr.mono (by decide)) rfl T.uW T.iH.kp T.nG .nil aC (aa (aA lI (pv 1) (aE (Kg T) (hr.mono (by decide)) rfl T.Az T.kG.kp T.rq .nil aC (aa (pv 2) (aa bq (aa (pv 0) af))))) af))⟩)))))), ?_⟩
  obtain ⟨⟨dx, hx⟩, hp⟩ := id hb
  walk_at "gz"
  refine ⟨x, p, b, e, t, u, d, m, kvs, xs, ps, rfl, hb, hX, hP, q0, fun hk => ?_⟩
  walk_at "gz"
  refine ⟨_, _, _, hx, T.b9, T.kQ, _, rfl, _, rfl, _, _, _, hx, T.b9, T.kP, _, rfl, bo, fun o ho => ⟨by decide, fun l hl => ?_⟩⟩
  have s1 := (au (o := .tup [.int (-d), .int u]) ho).trans (au (o := .lst [.ref o]) hl)
  have O1 : bb (upd (upd H o (.tup [.int (-d), .int u])) l (.lst [.ref o])) (.ref o) (some (-d)) (some u) := ⟨o, rfl, (au hl) _ _ aq⟩
  have L1 : (upd (upd H o (.tup [.int (-d), .int u])) l (.lst [.ref o])) l = some (.lst [.ref o]) := aq
  generalize upd (upd H o (.tup [.int (-d), .int u])) l (.lst [.ref o]) = H1 at s1 O1 L1 ⊢
  refine ⟨_, _, _, s1 _ _ hx, T.b9, T.gM, _, rfl, _, rfl, by omega, by omega, ?_⟩
  refine eV kl (by rw [List.length_map, List.length_range]; exact Nat.le_trans (by omega : _ <= 12) (by decide)) (il (R := fun _ x (k : Nat) => x = V.int ((0 : Int) + k)) (R' := bN) (f := fun (k : Nat) => cF (none, none) ((some (-d), some u) :: sel ps "step" (k : Int))) (fun _ _ _ _ _ h => h) (fun _ _ _ _ s' h => h.same s') (ay.eG _) (bs := []) trivial (fun _ _ => trivial) (fun x k _ H2 s2 r Q h => ?_) (fun x k _ H2 s2 r Q h => ?_) fun H2 zs s2 hz => ?_)
  ·walk_at "gz"
   exact h
  ·subst r
   have S2 := s1.trans s2
   walk_at "gz"
   refine ⟨b, xs, ps, "step", _, rfl, S2.seq hX, hP.same S2, by omega, fun r ys H3 s3 _ R3 hR => ?_⟩
   rw [Int.zero_add] at hR
   walk_at "gz"
   have hlen : ys.length <= 900 := by
    have := (ir.mp hR).len
    have h2 : (sel ps "step" (k : Int)).length <= ps.length := by
     unfold sel
     rw [List.length_map]
     exact List.length_filter_le _ _
    omega
   refine ⟨[.ref o], s3 _ _ (s2 _ _ L1), ys, R3, Nat.le_trans (by show 1 + ys.length <= 1000; omega) (by decide), fun c hc => ?_⟩
   have s4 := au (o := .lst ([.ref o] ++ ys)) hc
   refine ⟨c, _, (some (-d), some u) :: sel ps "step" (k : Int), rfl, ah.of aq, ⟨(O1.same (s2.trans s3)).same s4, ?_⟩, by rw [List.length_append, List.length_singleton]; omega, fun v H5 s5 hv => h _ _ ((s3.trans s4).trans s5) hv⟩
   exact ir.mpr ((ir.mp hR).imp fun _ _ r => r.same s4)
  ·intro c hc
   refine q hk c zs _ ((s1.trans s2).trans (au hc)) ((s1.trans s2).free hc) aq ?_
   rw [List.nil_append] at hz
   exact hz.imp fun _ _ r => r.same (au hc)
noncomputable def da (ps : List Pa) (n : Nat) : List W2 := (List.range n).map fun (k : Nat) => cF (none, none) (sel ps "at" (k : Int))
noncomputable def R9 (K : PySem.W.Frag) (B C : Addr) : Sp := fun vs H Q E => ∃ (x p b : Addr) (e t u d m : Int) (kvs : List (List Key × V)) (xs : List V) (ps : List Pa), vs = [.ref x, .ref b] /\ dU B H x e t u d m p kvs /\ 1 <= t /\ t <= 12 /\ ah K H b xs /\ bX H xs ps /\ ps.length <= 900 /\ (¬ di t ps -> E (.ref C) none H) /\ (di t ps -> ∀ l ys H', aw H H' -> H l = none -> H' l = some (.lst ys) -> ay (bN H') ys (da ps t.toNat) -> Q (.ref l) H')
theorem Sa (T : Tx K mg) : aJ P w K mg base (aK P w) 4 T.iX T.vA ["board", "claim"] (R9 K T.bf T.aU) := by
 refine dJ T.nQ Rv (fun vs H Q E h => ?_) (fun aI A outer s H vs Q E hr h => ?_)
 ·obtain ⟨x, p, b, e, t, u, d, m, kvs, xs, ps, rfl, _⟩ := h
  rfl
 ·obtain ⟨x, p, b, e, t, u, d, m, kvs, xs, ps, rfl, hb, t1, t2, hX, hP, hn, q0, q⟩ := h
  refine ⟨_, (aj (gR (aE (Kf T) (hr.mono (by decide)) rfl T.Ay T.kF.kp T.rn .nil tJ (aa (pv 0) (aa (pv 1) af))))
  (av (aG (eU (cP.mk (fr := [1]) (ys := ["claim"]) rfl (by decide +kernel) rfl (by decide +kernel) rfl rfl (.cons rfl .nil) (.cons rfl rfl rfl rfl .nil) (by decide) rfl) rfl (fh rfl T.dS (aa (gv (pv 0) rfl) af)) (fun C s2 H2 ex pn => ⟨gE, (aE (AO T) (hr.mono (by decide)) rfl T.uW T.iH.kp T.nG .nil aC (aa (aE (Kg T) (hr.mono (by decide)) rfl T.Az T.kG.kp T.rq .nil aC (aa (pv 1) (aa bq (aa (pv 0) af)))) af))⟩))))), ?_⟩
  obtain ⟨⟨dx, hx⟩, hp⟩ := id hb
  walk_at "gz"
  refine ⟨x, p, b, e, t, u, d, m, kvs, xs, ps, rfl, hb, hX, hP, q0, fun hk => ?_⟩
  walk_at "gz"
  refine ⟨_, _, _, hx, T.b9, T.gM, _, rfl, _, rfl, by omega, by omega, ?_⟩
  refine eV kl (by rw [List.length_map, List.length_range]; exact Nat.le_trans (by omega : _ <= 12) (by decide)) (il (R := fun _ x (k : Nat) => x = V.int ((0 : Int) + k)) (R' := bN) (f := fun (k : Nat) => cF (none, none) (sel ps "at" (k : Int))) (fun _ _ _ _ _ h => h) (fun _ _ _ _ s' h => h.same s') (ay.eG _) (bs := []) trivial (fun _ _ => trivial) (fun x k _ H2 s2 r Q h => ?_) (fun x k _ H2 s2 r Q h => ?_) fun H2 zs s2 hz => ?_)
  ·walk_at "gz"
   exact h
  ·subst r
   walk_at "gz"
   refine ⟨b, xs, ps, "at", _, rfl, s2.seq hX, hP.same s2, by omega, fun r ys H3 s3 _ R3 hR => ?_⟩
   rw [Int.zero_add] at hR
   walk_at "gz"
   have hlen : ys.length <= 900 := by
    have := (ir.mp hR).len
    have h2 : (sel ps "at" (k : Int)).length <= ps.length := by
     unfold sel
     rw [List.length_map]
     exact List.length_filter_le _ _
    omega
   exact ⟨r, ys, _, rfl, ah.of R3, hR, by omega, fun v H5 s5 hv => h _ _ (s3.trans s5) hv⟩
  ·intro c hc
   refine q hk c zs _ (s2.trans (au hc)) (s2.free hc) aq ?_
   rw [List.nil_append] at hz
   exact hz.imp fun _ _ r => r.same (au hc)
noncomputable def Sb : Sp := fun vs H Q _ => ∃ (v : V) (c : S2), vs = [v] /\ lW H v c /\ Q (.int (gF c)) H
theorem Kh (T : Tx K mg) : aJ P w K mg base (aK P w) 1 T.iI T.uX ["cell"] Sb := by
 refine okN T.kB Ro (fun vs H Q E h => ?_) (fun aI A outer s H vs Q E hr h => ?_)
 ·obtain ⟨v, c, rfl, _⟩ := h
  rfl
 ·obtain ⟨v, ⟨e1, e2⟩, rfl, ⟨p, rfl, hp⟩, q⟩ := h
  refine ⟨_, (aj (aN (bp (cC (ak ao (pv 0) ae (fun _ _ => rfl)))) (av (aG (ak ao (pv 0) ae (fun _ _ => rfl)))) aO)
  (aj (aN (bp (cC (ak ao (pv 0) ae (fun _ _ => rfl)))) (av (aG (ak ao (pv 0) ae (fun _ _ => rfl)))) aO)
  (av (aG ae)))), ?_⟩
  walk_at "gz"
  refine aF (ai.of hp) rfl ?_
  rcases e1 with _ | x
  ·walk_at "gz"
   refine aF (ai.of hp) rfl ?_
   rcases e2 with _ | y
   ·walk_at "gz"
    exact q
   ·walk_at "gz"
    exact aF (ai.of hp) rfl q
  ·walk_at "gz"
   exact aF (ai.of hp) rfl q
end
section
seal L2.PE L2.PS L2.bg L2.PA
variable {P : Program} {w : World} {K : PySem.W.Frag} {mg : Str -> Option Value} {base : Heap}
noncomputable def Sd (K : PySem.W.Frag) (B : Addr) : Sp := fun vs H Q _ => ∃ (x p : Addr) (e t u d m : Int), vs = [.ref x] /\ dU B H x e t u d m p [] /\ ∀ l H', aw H H' -> H l = none -> H' l = some (.lst []) -> Q (.ref l) H'
theorem AQ (T : Tx K mg) : aJ P w K mg base (aK P w) 1 T.jb T.vW ["self"] (Sd K T.bf) := by
 refine okN T.rE RD (fun vs H Q E h => ?_) (fun aI A outer s H vs Q E hr h => ?_)
 ·obtain ⟨x, p, e, t, u, d, m, rfl, _⟩ := h
  rfl
 ·obtain ⟨x, p, e, t, u, d, m, rfl, ⟨⟨dx, hx⟩, hp⟩, q⟩ := h
  refine ⟨_, (av (aG (eU (cP.mk (fr := [0]) (ys := ["self"]) rfl (by decide +kernel) rfl (by decide +kernel) rfl rfl (.cons rfl .nil) (.cons rfl rfl rfl rfl .nil) (by decide) rfl) rfl (ec (a6 (Rb rfl) (by rfl) T.AJ GJ (aa (gv (pv 0) rfl) af))) (fun C s2 H2 ex pn => ⟨gE, zN⟩)))), ?_⟩
  walk_at "gz"
  refine ⟨_, _, _, hx, T.b9, T.kR, _, rfl, p, rfl, hp, fun l hl => ⟨⟨_, ah.of aq⟩, eV (xs := []) zx (by decide) (And.intro (ah.of aq) fun l2 bV => q _ _ ((au hl).trans (au bV)) ((au hl).free bV) aq)⟩⟩
end
section
seal L2.PE L2.PS L2.bg L2.PA
variable {P : Program} {w : World} {K : PySem.W.Frag} {mg : Str -> Option Value} {base : Heap}
noncomputable def Se (K : PySem.W.Frag) : Sp := fun vs H Q _ => ∃ (v u : V) (s : S2) (p : P2), vs = [v, u] /\ bb H v s.1 s.2 /\ dh H u p /\ ∀ r H', aw H H' -> H r = none -> H' r = some (.tup [ev (cW s p).1, ev (cW s p).2]) -> Q (.ref r) H'
theorem Ki (T : Tx K mg) : aJ P w K mg base (aK P w) 1 T.iJ T.uY ["one", "step"] (Se K) := by
 refine okN T.kC An (fun vs H Q E h => ?_) (fun aI A outer s H vs Q E hr h => ?_)
 ·obtain ⟨v, u, s, p, rfl, _⟩ := h
  rfl
 ·obtain ⟨v, u, ⟨lo, hi⟩, ⟨p1, p2⟩, rfl, ⟨a, rfl, ha⟩, ⟨b, rfl, hb⟩, q⟩ := h
  refine ⟨_, (aj (az (i := 2) An.nd rfl (Or.inl rfl) (k9 (bp (bZ (ak ao (pv 0) ae (fun _ _ => rfl)))) bA (aA a5 (ak ao (pv 0) ae (fun _ _ => rfl)) (ak ao (pv 1) ae (fun _ _ => rfl)))))
  (aj (az (i := 3) An.nd rfl (Or.inl rfl) (k9 (bp (bZ (ak ao (pv 0) ae (fun _ _ => rfl)))) bA (aA a5 (ak ao (pv 0) ae (fun _ _ => rfl)) (ak ao (pv 1) ae (fun _ _ => rfl)))))
  (av (aG (aY (aa (pv 2) (aa (pv 3) af))))))), ?_⟩
  rcases lo with _ | lo <;> rcases hi with _ | hi
  all_goals simp only [ig, ij] at ha
  all_goals
   walk_at "gzn"
   repeat' first
   | refine aF (ai.of ha) rfl ?_
   | refine aF (ai.of hb) rfl ?_
   | (walk_at "gzp")
  all_goals exact ⟨bo, fun r hr => q r _ (au hr) hr aq⟩
theorem Sf {H : Hp} {zs : List V} {ss : List S2} (h : ay (fun v (s : S2) => bb H v s.1 s.2) zs ss) (h0 : 0 < ss.length) : ∃ v, b8 zs (-1) = some v /\ bb H v (bB ss (ss.length - 1)).1 (bB ss (ss.length - 1)).2 := by
 have hl := h.len
 obtain ⟨v, hv, r⟩ := h.at (List.getElem?_eq_getElem (l := ss) (i := ss.length - 1) (by omega))
 have e : zs = zs.take (ss.length - 1) ++ [v] := by
  have := List.take_append_drop (ss.length - 1) zs
  rw [List.drop_eq_getElem_cons (by omega), List.drop_of_length_le (by omega)] at this
  rw [List.getElem?_eq_getElem (by omega)] at hv
  cases hv
  exact this.symm
 refine ⟨v, by rw [e]; exact Gu _ _, ?_⟩
 unfold bB
 rw [List.getD_eq_getElem?_getD, List.getElem?_eq_getElem (by omega)]
 exact r
noncomputable def Sg (K : PySem.W.Frag) : Sp := fun vs H Q _ => ∃ (a b : Addr) (xs ys : List V) (ws : List W2) (ps : List P2), vs = [.ref a, .ref b] /\ ah K H a xs /\ ay (bN H) xs ws /\ ah K H b ys /\ dO H ys ps /\ ws.length <= ps.length + 1 /\ ws.length <= 1000 /\
 (∀ t, t < ws.length -> a8 (cY ws) (aD ps) t = none -> ∀ H', aw H H' -> Q .non H') /\
 ((∀ t, t < ws.length -> a8 (cY ws) (aD ps) t ≠ none) -> ∀ l zs ss H', aw H H' -> H l = none -> H' l = some (.lst zs) -> ay (lW H') zs ss -> ss.length = ws.length -> (∀ t, t < ws.length -> a8 (cY ws) (aD ps) t = some (bB ss t)) -> Q (.ref l) H')
noncomputable def Kj (H : Hp) (a b l : Addr) (ws : List W2) (ps : List P2) (i : Nat) (σ : St) (H1 : Hp) : Prop := ∃ (zs : List V) (ss : List S2) (e1 e2 e3 : Option V), σ = [some (.ref a), some (.ref b), some (.ref l), e1, e2, e3] /\ aw H H1 /\ H1 l = some (.lst zs) /\ ay (lW H1) zs ss /\ ss.length = i /\ ∀ t, t < i -> a8 (cY ws) (aD ps) t = some (bB ss t)
theorem Kk (T : Tx K mg) : aJ P w K mg base (aK P w) 3 T.iK T.uZ ["boxes", "steps"] (Sg K) := by
 refine okN T.kD ny (fun vs H Q E h => ?_) (fun aI A outer s H vs Q E hr h => ?_)
 ·obtain ⟨a, b, xs, ys, ws, ps, rfl, _⟩ := h
  rfl
 ·obtain ⟨a, b, xs, ys, ws, ps, rfl, hS, hW, hT, hP, hl, hn, q0, q⟩ := h
  refine ⟨_, (aj (az (i := 2) ny.nd rfl (Or.inl rfl) (cN af))
  (aj (cI PassesOwn.never rfl (zE rfl T.rL (aa (pv 0) af)) (d8 rfl (bE (bc (i := 3) ny.nd rfl (Or.inl rfl)) (bE (bc (i := 4) ny.nd rfl (Or.inl rfl)) d0))) (aj (az (i := 5) ny.nd rfl (Or.inl rfl) (pv 4))
    (aj (aN (PW.pt (du (aX fm (pv 3) ae (aR _)) (dZ (bp (cC (pv 4)))))) (av (az (i := 5) ny.nd rfl (Or.inl rfl) (aE (AM T) (hr.mono (by decide)) rfl T.uU T.iF.kp T.nF .nil aC (aa (pv 4) (aa (aE (Ki T) (hr.mono (by decide)) rfl T.Av T.kC.kp T.rh .nil aC (aa (ak ao (pv 2) (dw dz ae) (fun _ _ => rfl)) (aa (ak ao (pv 1) (aA cU (pv 3) ae) (fun _ _ => rfl)) af))) af))))) aO)
    (aj (aN (bp (bZ (pv 5))) (av (aG bA)) aO)
    (av (gR (j7 PySem.F.plainAttrs_list PySem.F.slot_list_append PySem.F.type_list_append qc (pv 2) (aa (pv 5) af))))))))
  (av (aG (pv 2))))), ?_⟩
  have l1 := hW.len
  have l2 := hP.len
  walk_at "gzn"
  refine ⟨by decide, fun l b0 => ?_⟩
  have s1 := au (o := .lst []) b0
  have e1 : upd H l (.lst []) l = some (.lst []) := aq
  generalize upd H l (.lst []) = H1 at s1 e1 ⊢
  walk_at "gzn"
  refine ⟨⟨_, s1.seq hS⟩, zG (xs := xs) (Kj H a b l ws ps) ⟨[], [], _, _, _, rfl, s1, e1, trivial, rfl, fun t h => absurd h (Nat.not_lt_zero _)⟩ ?_ ?_ ?_⟩
  ·rintro i σ H2 _ ⟨_, _, _, _, _, _, s2, _⟩
   exact s2.seq hS
  ·rintro i x σ H2 p hx ⟨zs, ss, d1, d2, d3, rfl, s2, bV, hz, hlen, eE⟩ hp
   obtain ⟨w, hw, r⟩ := hW.get hx
   have sp := au (o := .tup [.int i, x]) hp
   refine km (ai.of aq) ?_
   generalize upd H2 p (.tup [.int i, x]) = H3 at sp ⊢
   have s3 := s2.trans sp
   have r3 := r.same s3
   have bC := sp _ _ bV
   have cM := hz.imp fun _ _ r => bb.same r sp
   have zl := hz.len
   have ew : cY ws i = w := by unfold cY; rw [List.getD_eq_getElem?_getD, hw]; rfl
   have hi := (List.getElem?_eq_some_iff.mp hx).1
   have add : ∀ (v : V) (k : S2) (H4 : Hp) (d1 d2 d3 : Option V), aw H3 H4 -> bb H4 v k.1 k.2 -> a8 (cY ws) (aD ps) i = some k -> Kj H a b l ws ps (i + 1) [some (.ref a), some (.ref b), some (.ref l), d1, d2, d3] (upd H4 l (.lst (zs ++ [v]))) := fun v k H4 d1 d2 d3 s4 hv ek => by
    have rN := s4 _ _ bC
    refine ⟨zs ++ [v], ss ++ [k], d1, d2, d3, rfl, g9 b0 (s3.trans s4), aq, ?_, by rw [List.length_append, List.length_singleton, hlen], fun t ht => ?_⟩
    ·exact ((cM.imp fun _ _ r => bb.same r s4).snoc hv).imp fun _ _ r => bb.put r rN
    ·unfold bB
     rw [List.getD_eq_getElem?_getD]
     by_cases e : t = i
     ·subst e
      rw [ek, List.getElem?_append_right (by omega), hlen, Nat.sub_self]
      rfl
     ·rw [eE t (by omega), List.getElem?_append_left (by omega)]
      unfold bB
      rw [List.getD_eq_getElem?_getD]
   cases w with
   | none =>
    obtain rfl : x = .non := r3
    have e0 : a8 (cY ws) (aD ps) i = none := by
     cases i with
     | zero => exact ew
     | succ i => unfold a8; rw [ew]
    walk_at "gzn"
    have fin := q0 i (by omega) e0 _ s3
    exact bz (fun _ => fin) fun _ => fin
   | some k =>
    obtain ⟨rp, rfl, hrp⟩ := id (show bb H3 x k.1 k.2 from r3)
    cases i with
    | zero =>
     walk_at "gzn"
     rw [if_neg (by simp)]
     exact ⟨.inl ⟨rfl, _, ah.of bC⟩, _, bC, Nat.lt_of_le_of_lt (by omega : zs.length <= 1000) (by decide), add _ k _ _ _ _ (aw.refl _) r3 ew⟩
    | succ i =>
     walk_at "gzn"
     rw [if_pos (by omega)]
     obtain ⟨v, hv, rv⟩ := Sf (ss := ss) cM (by omega)
     obtain ⟨u, hu, ru⟩ := hP.at (List.getElem?_eq_getElem (l := ps) (i := i) (by omega))
     have ep : ps[i]'(by omega) = aD ps i := by unfold aD; rw [List.getD_eq_getElem?_getD, List.getElem?_eq_getElem (by omega)]; rfl
     rw [ep] at ru
     rw [show (((i + 1 : Nat) : Int) - 1) = ((i : Nat) : Int) by omega]
     refine aL (ah.of bC) hv (aL (s3.seq hT) (df hu) ?_)
     rw [hlen, Nat.add_sub_cancel] at rv
     refine ⟨v, u, bB ss i, aD ps i, rfl, rv, ru.same s3, fun r H4 s4 _ Sh => ?_⟩
     refine ⟨_, _, k.1, k.2, _, _, rfl, ⟨rp, rfl, s4 _ _ hrp⟩, ⟨r, rfl, Sh⟩, fun y H5 s5 hy => ?_⟩
     have ek := eE i (by omega)
     have en : a8 (cY ws) (aD ps) (i + 1) = eZ k (cW (bB ss i) (aD ps i)) := by
      show (match cY ws (i + 1), a8 (cY ws) (aD ps) i with
       | some b, some k => eZ b (cW k (aD ps i))
       | _, _ => none) = _
      rw [ew, ek]
     have rO := (s4.trans s5) _ _ bC
     unfold eZ at en
     cases hc : ba (cv k.1 (cW (bB ss i) (aD ps i)).1) (cw k.2 (cW (bB ss i) (aD ps i)).2) with
     | true =>
      rw [if_pos hc] at en
      obtain rfl := hy.1 hc
      walk_at "gzn"
      exact q0 (i + 1) (by omega) en _ (s3.trans (s4.trans s5))
     | false =>
      rw [if_neg (by rw [hc]; simp)] at en
      have xf := hy.2 hc
      obtain ⟨yp, rfl, hyp⟩ := id xf
      walk_at "gzn"
      exact ⟨.inl ⟨rfl, _, ah.of rO⟩, _, rO, Nat.lt_of_le_of_lt (by omega : zs.length <= 1000) (by decide), add _ _ _ _ _ _ (s4.trans s5) xf en⟩
  ·rintro σ H2 ⟨zs, ss, d1, d2, d3, rfl, s2, bV, hz, hlen, eE⟩
   walk_at "gzn"
   rw [l1] at hlen eE
   exact q (fun t ht => by rw [eE t ht]; simp) l zs ss H2 s2 b0 bV hz hlen eE
end
section
seal L2.PE L2.PS L2.bg L2.PA
variable {P : Program} {w : World} {K : PySem.W.Frag} {mg : Str -> Option Value} {base : Heap}
noncomputable def Si (K : PySem.W.Frag) : Sp := fun vs H Q _ => ∃ (a : Addr) (xs : List V) (ms : List Mk) (t : Nat), vs = [.ref a, .int t] /\ ah K H a xs /\ ay (dm H) xs ms /\ ms.length <= 1000 /\ ∀ l ys H', aw H H' -> H' l = some (.lst ys) -> fw H' ys (atT ms t) -> Q (.ref l) H'
theorem Sj (T : Tx K mg) : aJ P w K mg base (aK P w) 1 T.iL T.u0 ["marks", "turn"] (Si K) := by
 refine okN T.nH Rp (fun vs H Q E h => ?_) (fun aI A outer s H vs Q E hr h => ?_)
 ·obtain ⟨a, xs, ms, t, rfl, _⟩ := h
  rfl
 ·obtain ⟨a, xs, ms, t, rfl, hS, hM, hn, q⟩ := h
  refine ⟨_, (av (aG (eU (cP.mk (fr := [1]) (ys := ["turn"]) rfl (by decide +kernel) rfl (by decide +kernel) rfl rfl (.cons rfl .nil) (.cons rfl rfl rfl rfl .nil) (by decide) rfl) rfl (ec (pv 0)) (fun C s2 H2 ex pn => ⟨(ke (aX bJ (ak (fv (K := K) rfl) (pv 0) ae (fun _ _ => rfl)) (pv 1) (aR _))), (ak (fv (K := K) rfl) (pv 0) ae (fun _ _ => rfl))⟩)))), ?_⟩
  have hl := hM.len
  walk_at "gzn"
  refine ⟨⟨_, hS⟩, eV zx (Nat.le_trans (by omega : xs.length <= 1000) (by decide)) (uv (R := dm H) (R' := fun v (s : S2) => bb H v s.1 s.2) (p := fun m => decide (m.1 = t)) (f := fun m => m.2) hS hM (fun x m r Q h => ?_) (fun x m hp r Q h => ?_) fun zs hz => ?_)⟩
  ·obtain ⟨tp, sp, rfl, h1, h2⟩ := r
   walk_at "gzn"
   refine aF (ai.of h1) rfl ?_
   walk_at "gzn"
   rw [show decide ((m.1 : Int) = (t : Int)) = decide (m.1 = t) from decide_eq_decide.mpr (by omega)]
   exact h
  ·obtain ⟨tp, sp, rfl, h1, h2⟩ := r
   walk_at "gzn"
   exact aF (ai.of h1) rfl (h _ ⟨sp, rfl, h2⟩)
  ·rw [List.nil_append]
   intro l hl
   exact q l zs _ (au hl) aq (ir.mpr (hz.imp fun _ _ r => r.same (au hl)))
theorem ay.rev {α : Type} {R : V -> α -> Prop} : ∀ {xs : List V} {as : List α}, ay R xs as -> ay R xs.reverse as.reverse
 | [], [], _ => trivial
 | x :: xs, a :: as, h => by rw [List.reverse_cons, List.reverse_cons]; exact (ay.rev h.2).app ⟨h.1, trivial⟩
 | [], _ :: _, h => h.elim
 | _ :: _, [], h => h.elim
noncomputable def Sk (K : PySem.W.Frag) : Sp := fun vs H Q _ => ∃ (a b : Addr) (xs ys : List V) (ps : List P2) (ms : List Mk), vs = [.ref a, .ref b] /\ ah K H a xs /\ dO H xs ps /\ ah K H b ys /\ ay (dm H) ys ms /\ eo ps /\ ps.length <= 900 /\ ms.length <= 1000 /\
 (∀ t, t <= ps.length -> a8 (bL ms) (aD ps) t = none -> ∀ H', aw H H' -> Q .non H') /\
 ((∀ t, t <= ps.length -> a8 (bL ms) (aD ps) t ≠ none) -> ∀ l zs ss H', aw H H' -> H l = none -> H' l = some (.lst zs) -> ay (lW H') zs ss -> ss.length = ps.length + 1 -> (∀ t, t <= ps.length -> dQ ps.length (bL ms) (aD ps) t = some (bB ss t)) -> Q (.ref l) H')
theorem Sl (T : Tx K mg) : aJ P w K mg base (aK P w) 4 T.iM T.vc ["steps", "marks"] (Sk K) := by
 refine okN T.nI Ao (fun vs H Q E h => ?_) (fun aI A outer s H vs Q E hr h => ?_)
 ·obtain ⟨a, b, xs, ys, ps, ms, rfl, _⟩ := h
  rfl
 ·obtain ⟨a, b, xs, ys, ps, ms, rfl, hS, hP, hT, hM, ar, hn, hm, q0, q⟩ := h
  refine ⟨_, (aj (az (i := 2) Ao.nd rfl (Or.inl rfl) (aE (Kk T) (hr.mono (by decide)) rfl T.Aw T.kD.kp T.rk .nil aC (aa (eU (cP.mk (fr := [1]) (ys := ["marks"]) rfl (by decide +kernel) rfl (by decide +kernel) rfl rfl (.cons rfl .nil) (.cons rfl rfl rfl rfl .nil) (by decide) rfl) rfl (fh rfl T.dS (aa (aA a5 (a6 cD (by rfl) T.cz cE (aa (pv 0) af)) ae) af)) (fun C s2 H2 ex pn => ⟨gE, (aE (AO T) (hr.mono (by decide)) rfl T.uW T.iH.kp T.nG .nil aC (aa (aE (Sj T) (hr.mono (by decide)) rfl T.IQ T.nH.kp T.va .nil aC (aa (pv 1) (aa (pv 0) af))) af))⟩)) (aa (pv 0) af))))
  (aj (aN (bp (bZ (pv 2))) (av (aG bA)) aO)
  (aj (Hb (i := 3) (cP.mk (fr := []) (ys := []) rfl (by decide +kernel) rfl (by decide +kernel) rfl rfl .nil .nil (by decide) rfl) rfl Ao.nd rfl rfl (O3 rfl T.Jz (aa (pv 0) af)) (fun C s2 H2 ex pn => ⟨gE, (aY (aa (dw dz (ak (fv (K := K) rfl) (pv 0) ae (fun _ _ => rfl))) (aa (dw dz (ak (fv (K := K) rfl) (pv 0) ae (fun _ _ => rfl))) af)))⟩))
  (av (aG (Ii (aE (Kk T) (hr.mono (by decide)) rfl T.Aw T.kD.kp T.rk .nil aC (aa (Ii (pv 2) (dw dz ae)) (aa (pv 3) af))) (dw dz ae))))))), ?_⟩
  have l1 := hP.len
  walk_at "gzn"
  refine ⟨_, dg hS, by omega, by omega, ?_⟩
  rw [l1, show ((ps.length : Int) + 1).toNat = ps.length + 1 by omega]
  refine eV kl (by rw [List.length_map, List.length_range]; exact Nat.le_trans (by omega : _ <= 901) (by decide)) (il (R := fun _ x (k : Nat) => x = V.int ((0 : Int) + k)) (R' := bN) (f := fun (k : Nat) => bL ms k) (fun _ _ _ _ _ h => h) (fun _ _ _ _ s' h => h.same s') (ay.eG _) (bs := []) trivial (fun _ _ => trivial) (fun x k _ H2 s2 r Q h => ?_) (fun x k _ H2 s2 r Q h => ?_) fun H2 zs s2 hz => ?_)
  ·walk_at "gzn"
   exact h
  ·subst r
   walk_at "gzn"
   rw [show (0 : Int) + (k : Nat) = ((k : Nat) : Int) by omega]
   refine ⟨b, ys, ms, k, rfl, s2.seq hT, hM.imp fun _ _ r => r.same s2, hm, fun l zs H3 s3 hl hs => ?_⟩
   refine ⟨l, zs, _, rfl, ah.of hl, hs, ?_, fun v H4 s4 hv => h H4 v (s3.trans s4) hv⟩
   rw [hs.len]
   unfold atT
   rw [List.length_map]
   exact Nat.le_trans (List.length_filter_le _ _) hm
  rw [List.nil_append] at hz
  intro c hc
  have s3 := s2.trans (au (o := .lst zs) hc)
  have c3 : upd H2 c (.lst zs) c = some (.lst zs) := aq
  have cM := hz.imp fun _ _ r => r.same (au (o := .lst zs) hc)
  generalize upd H2 c (.lst zs) = H3 at s3 c3 cM ⊢
  clear hz hc s2
  have wl : ((List.range (ps.length + 1)).map fun (k : Nat) => bL ms k).length = ps.length + 1 := by rw [List.length_map, List.length_range]
  have we : ∀ t, t <= ps.length -> cY ((List.range (ps.length + 1)).map fun (k : Nat) => bL ms k) t = bL ms t := fun t ht => by
   unfold cY
   rw [List.getD_eq_getElem?_getD, List.getElem?_map, List.getElem?_range (by omega)]
   rfl
  have ne : ∀ t, t <= ps.length -> a8 (cY ((List.range (ps.length + 1)).map fun (k : Nat) => bL ms k)) (aD ps) t = a8 (bL ms) (aD ps) t := fun t ht => z6 t (fun k hk => we k (by omega)) fun k _ => rfl
  refine ⟨c, a, zs, xs, _, ps, rfl, ah.of c3, cM, s3.seq hS, hP.same s3, by rw [wl]; exact Nat.le_refl _, by rw [wl]; omega, fun t ht en H4 s4 => ?_, fun bW l jO ss H4 s4 _ hl Sm lM eE => ?_⟩
  ·rw [wl] at ht
   rw [ne t (by omega)] at en
   walk_at "gzn"
   exact q0 t (by omega) en _ (s3.trans s4)
  rw [wl] at bW eE lM
  have Kl : ∀ t, t <= ps.length -> a8 (bL ms) (aD ps) t ≠ none := fun t ht z => bW t (by omega) (by rw [ne t ht]; exact z)
  have Sn : ∀ t, t < ps.length + 1 -> a8 (bL ms) (aD ps) t = some (bB ss t) := fun t ht => by rw [<- ne t (by omega)]; exact eE t ht
  have TB := Ic ar Kl
  have S4 := s3.trans s4
  walk_at "gzn"
  refine ⟨xs, S4.seq hS, Qt (Nat.le_trans (by omega : _ <= 900) (by decide)) (il (R := dh) (R' := dh) (f := fun p => (-p.2, -p.1)) (fun _ _ _ _ s' h => h.same s') (fun _ _ _ _ s' h => h.same s') (ay.rev (hP.same S4)) (bs := []) trivial (fun H' s' => (S4.trans s').seq hS) (fun x k _ H2 s2 r Q h => ?_) (fun x k _ H2 s2 r Q h => ?_) fun H5 bs s5 hb => ?_)⟩
  ·walk_at "gzn"
   exact h
  ·obtain ⟨t, rfl, ht⟩ := r
   walk_at "gzn"
   refine aF (ai.of ht) rfl ?_
   walk_at "gzn"
   refine aF (ai.of ht) rfl ?_
   walk_at "gzn"
   exact ⟨bo, fun p hp => h _ _ (au hp) ⟨p, rfl, aq⟩⟩
  rw [List.nil_append] at hb
  intro d hd
  have s6 := s5.trans (au (o := .lst bs) hd)
  have d6 : upd H5 d (.lst bs) d = some (.lst bs) := aq
  have Km : dO (upd H5 d (.lst bs)) bs (gI ps) := hb.imp fun _ _ r => r.same (au (o := .lst bs) hd)
  generalize upd H5 d (.lst bs) = H6 at s6 d6 Km ⊢
  clear hb hd s5
  refine ⟨jO, ah.of (s6 _ _ hl), fun p hp => ?_⟩
  have s7 := s6.trans (au (o := .lst jO.reverse) hp)
  have p7 : upd H6 p (.lst jO.reverse) p = some (.lst jO.reverse) := aq
  have d7 := (au (o := .lst jO.reverse) hp) _ _ d6
  have Kn : dO (upd H6 p (.lst jO.reverse)) bs (gI ps) := Km.same (au (o := .lst jO.reverse) hp)
  generalize upd H6 p (.lst jO.reverse) = H7 at s7 p7 d7 Kn ⊢
  have rl : (ss.reverse.map some).length = ps.length + 1 := by rw [List.length_map, List.length_reverse, lM]
  have bl : (gI ps).length = ps.length := by unfold gI; rw [List.length_map, List.length_reverse]
  have be : ∀ t, t <= ps.length -> a8 (cY (ss.reverse.map some)) (aD (gI ps)) t = dQ ps.length (bL ms) (aD ps) (ps.length - t) := fun t ht => back_eq lM Sn ht
  refine ⟨p, d, _, bs, ss.reverse.map some, gI ps, rfl, ah.of p7, ay.HJ (ay.rev (Sm.imp fun _ _ r => bb.same r s7)), ah.of d7, Kn, by rw [rl, bl]; exact Nat.le_refl _, by rw [rl]; omega, fun t ht en H8 s8 => ?_, fun _ l3 So Sq H8 s8 fl3 bC Sr AR Ko => ?_⟩
  ·rw [rl] at ht
   rw [be t (by omega)] at en
   obtain ⟨z, ez, _⟩ := TB.ok (ps.length - t) (by omega)
   rw [en] at ez
   cases ez
  rw [rl] at AR Ko
  have S8 := S4.trans (s7.trans s8)
  refine ⟨l3, rfl, So, ah.of bC, fun p3 kS => q Kl p3 _ Sq.reverse _ (S8.trans (au kS)) (S8.free kS) aq (ay.rev (Sr.imp fun _ _ r => bb.same r (au kS))) (by rw [List.length_reverse, AR]) fun t ht => ?_⟩
  rw [Qi AR ht, <- Ko (ps.length - t) (by omega), be _ (by omega), show ps.length - (ps.length - t) = t by omega]
end
section
seal L2.PE L2.PS L2.bg L2.PA
variable {P : Program} {w : World} {K : PySem.W.Frag} {mg : Str -> Option Value} {base : Heap}
noncomputable def Ss (K : PySem.W.Frag) : Sp := fun vs H Q _ => ∃ (a b : Addr) (xs ys : List V) (ps : List P2) (ms : List Mk), vs = [.ref a, .ref b] /\ ah K H a xs /\ dO H xs ps /\ ah K H b ys /\ ay (dm H) ys ms /\ eo ps /\ ps.length <= 900 /\ ms.length <= 1000 /\ (∀ m ∈ ms, m.1 <= ps.length) /\
 ((¬ ∃ c, iu ps c /\ meets ms c) -> ∀ H', aw H H' -> Q .non H') /\
 (∀ l cs H', aw H H' -> H l = none -> H' l = some (.lst (cs.map V.int)) -> cs.length = ps.length + 1 -> iu ps (aZ cs) -> meets ms (aZ cs) -> Q (.ref l) H')
noncomputable def Su (H : Hp) (a b x l c : Addr) (zs : List V) (ss : List S2) (ps : List P2) (ms : List Mk) (i : Nat) (σ : St) (H1 : Hp) : Prop := ∃ (cs : List Int) (e1 e2 : Option V), σ = [some (.ref a), some (.ref b), some (.ref x), some (.ref l), e1, e2] /\ aw H H1 /\ H1 l = some (.lst (cs.map V.int)) /\ H1 c = some (.lst (zs.drop 1)) /\ ay (lW H1) zs ss /\ cs.length = i + 1 /\ (∀ t, t <= i -> cR (dQ ps.length (bL ms) (aD ps) t) (aZ cs t)) /\ ∀ k, k < i -> (aD ps k).1 <= aZ cs (k + 1) - aZ cs k /\ aZ cs (k + 1) - aZ cs k <= (aD ps k).2
theorem xg {cs : List Int} {n : Int} {t : Nat} (h : t < cs.length) : aZ (cs ++ [n]) t = aZ cs t := by
 unfold aZ
 rw [List.getD_eq_getElem?_getD, List.getD_eq_getElem?_getD, List.getElem?_append_left h]
theorem Kp {cs : List Int} {n : Int} {t : Nat} (h : cs.length = t) : aZ (cs ++ [n]) t = n := by
 unfold aZ
 rw [List.getD_eq_getElem?_getD, List.getElem?_append_right (by omega), h, Nat.sub_self]
 rfl
theorem Sv {cs : List Int} {i : Nat} (h : cs.length = i + 1) : b8 (cs.map V.int) (-1) = some (.int (aZ cs i)) := by
 have e : cs = cs.take i ++ [aZ cs i] := by
  have := List.take_append_drop i cs
  rw [List.drop_eq_getElem_cons (by omega), List.drop_of_length_le (by omega)] at this
  unfold aZ
  rw [List.getD_eq_getElem?_getD, List.getElem?_eq_getElem (by omega)]
  exact this.symm
 have e2 : cs.map V.int = (cs.take i).map V.int ++ [V.int (aZ cs i)] := (congrArg (List.map V.int) e).trans (by rw [List.map_append]; rfl)
 rw [e2]
 exact Gu _ _
theorem Kq {s : S2} (h : ba s.1 s.2 = false) : bw s (gF s) := HM.mpr (Pp h)
theorem Kr {ss : List S2} {i : Nat} (h : i < ss.length) : ss[i]? = some (bB ss i) := by unfold bB; rw [List.getD_eq_getElem?_getD, List.getElem?_eq_getElem h]; rfl
theorem AS {ps : List P2} {i : Nat} (h : i < ps.length) : ps[i]? = some (aD ps i) := by unfold aD; rw [List.getD_eq_getElem?_getD, List.getElem?_eq_getElem h]; rfl
theorem Sw (T : Tx K mg) : aJ P w K mg base (aK P w) 5 T.iN T.ve ["steps", "marks"] (Ss K) := by
 refine okN T.nJ q8 (fun vs H Q E h => ?_) (fun aI A outer s H vs Q E hr h => ?_)
 ·obtain ⟨a, b, xs, ys, ps, ms, rfl, _⟩ := h
  rfl
 ·obtain ⟨a, b, xs, ys, ps, ms, rfl, hS, hP, hT, hM, ar, hn, hm, ht, q0, q⟩ := h
  refine ⟨_, (aj (az (i := 2) q8.nd rfl (Or.inl rfl) (aE (Sl T) (hr.mono (by decide)) rfl T.IS T.nI.kp T.vd .nil aC (aa (pv 0) (aa (pv 1) af))))
  (aj (aN (bp (bZ (pv 2))) (av (aG bA)) aO)
  (aj (az (i := 3) q8.nd rfl (Or.inl rfl) (cN (aa (aE (Kh T) (hr.mono (by decide)) rfl T.Au T.kB.kp T.rg .nil aC (aa (ak ao (pv 2) ae (fun _ _ => rfl)) af)) af)))
  (aj (cI PassesOwn.never rfl (Pb rfl T.JB (aa (pv 0) (aa (pW yV (pv 2) (pU ae) pS) af))) (d8 rfl (bE (bc (i := 4) q8.nd rfl (Or.inl rfl)) (bE (bc (i := 5) q8.nd rfl (Or.inl rfl)) d0))) (av (gR (j7 PySem.F.plainAttrs_list PySem.F.slot_list_append PySem.F.type_list_append qc (pv 3) (aa (aE (Kh T) (hr.mono (by decide)) rfl T.Au T.kB.kp T.rg .nil aC (aa (aE (AM T) (hr.mono (by decide)) rfl T.uU T.iF.kp T.nF .nil aC (aa (pv 5) (aa (aE (Ki T) (hr.mono (by decide)) rfl T.Av T.kC.kp T.rh .nil aC (aa (aY (aa (ak ao (pv 3) (dw dz ae) (fun _ _ => rfl)) (aa (ak ao (pv 3) (dw dz ae) (fun _ _ => rfl)) af))) (aa (pv 4) af))) af))) af)) af)))))
  (av (aG (pv 3))))))), ?_⟩
  have l1 := hP.len
  walk_at "gzn"
  refine ⟨a, b, xs, ys, ps, ms, rfl, hS, hP, hT, hM, ar, hn, hm, fun t ht en H1 s1 => ?_, fun bW x zs ss H1 s1 fx hx hz lM eE => ?_⟩
  ·walk_at "gzn"
   refine q0 ?_ _ s1
   rintro ⟨c, hc, gC⟩
   exact Qg hc gC t ht en
  have TB := Ic ar bW
  have zl := hz.len
  have Sx : ∀ t, t <= ps.length -> ba (bB ss t).1 (bB ss t).2 = false := fun t ht => by
   obtain ⟨s, es, hs⟩ := TB.ok t ht
   rw [eE t ht] at es
   cases es
   exact hs
  walk_at "gzn"
  obtain ⟨v0, Sy, r0⟩ := hz.at (Kr (ss := ss) (i := 0) (by omega))
  refine aL (ah.of hx) (df (j := 0) Sy) ?_
  refine ⟨v0, bB ss 0, rfl, r0, by decide, fun l b0 => ?_⟩
  have u1 := au (o := .lst [.int (gF (bB ss 0))]) b0
  have L1 : upd H1 l (.lst [.int (gF (bB ss 0))]) l = some (.lst ([gF (bB ss 0)].map V.int)) := aq
  have fl := s1.free b0
  generalize upd H1 l (.lst [.int (gF (bB ss 0))]) = H2 at u1 L1 ⊢
  refine ⟨zs, ah.of (u1 _ _ hx), fun c hc => ?_⟩
  rw [show eO zs (some 1) none = zs.drop 1 from Hv zs 1]
  have u2 := au (o := .lst (zs.drop 1)) hc
  have c3 : upd H2 c (.lst (zs.drop 1)) c = some (.lst (zs.drop 1)) := aq
  have lc : l ≠ c := fun z => by rw [<- z, L1] at hc; cases hc
  generalize upd H2 c (.lst (zs.drop 1)) = H3 at u2 c3 ⊢
  have S3 := s1.trans (u1.trans u2)
  refine ⟨⟨_, S3.seq hS⟩, ⟨_, ah.of c3⟩, Pd (xs := xs) (ys := zs.drop 1) (Su H a b x l c zs ss ps ms) ⟨[gF (bB ss 0)], _, _, rfl, S3, u2 _ _ L1, c3, hz.imp fun _ _ r => bb.same r (u1.trans u2), rfl, fun t ht => ?_, fun k hk => absurd hk (Nat.not_lt_zero _)⟩ ?_ ?_ ?_⟩
  ·obtain rfl : t = 0 := by omega
   exact ⟨_, eE 0 (by omega), Kq (Sx 0 (by omega))⟩
  ·rintro i σ H4 ⟨_, _, _, _, s4, _, c4, _⟩
   exact ⟨s4.seq hS, ah.of c4⟩
  ·rintro i u v σ H4 p hu hv ⟨cs, d1, d2, rfl, s4, L4, c4, kT, cu, hJ, cn⟩ hp
   have hi : i < ps.length := by have := (List.getElem?_eq_some_iff.mp hu).1; omega
   obtain ⟨pt, ept, ru⟩ := hP.get hu
   rw [AS hi] at ept
   cases ept
   rw [List.getElem?_drop, Nat.add_comm 1 i] at hv
   obtain ⟨sv, esv, rv⟩ := kT.get hv
   rw [Kr (by omega)] at esv
   cases esv
   refine km (ai.of aq) ?_
   have up := au (o := .tup [u, v]) hp
   generalize upd H4 p (.tup [u, v]) = H5 at up ⊢
   have L5 := up _ _ L4
   walk_at "gzn"
   have lst := Sv cu
   refine ⟨.inl ⟨rfl, _, ah.of L5⟩, aL (ah.of L5) lst (aL (ah.of L5) lst ⟨bo, fun t1 AU => ?_⟩)⟩
   have ut := au (o := .tup [.int (aZ cs i), .int (aZ cs i)]) AU
   refine ⟨.ref t1, u, (some (aZ cs i), some (aZ cs i)), aD ps i, rfl, ⟨t1, rfl, aq⟩, ru.same (s4.trans (up.trans ut)), fun r H6 s6 _ Sz => ?_⟩
   obtain ⟨m, em, bK⟩ := Qj TB hi (hJ i (Nat.le_refl _)) (eE (i + 1) (by omega))
   have SA := bb.same rv (up.trans (ut.trans s6))
   refine ⟨v, .ref r, _, _, _, _, rfl, SA, ⟨r, rfl, Sz⟩, fun y H7 s7 hy => ?_⟩
   have cm := HQ em
   have Ks : ba (cv (bB ss (i + 1)).1 (cW (some (aZ cs i), some (aZ cs i)) (aD ps i)).1) (cw (bB ss (i + 1)).2 (cW (some (aZ cs i), some (aZ cs i)) (aD ps i)).2) = false /\ m = (cv (bB ss (i + 1)).1 (cW (some (aZ cs i), some (aZ cs i)) (aD ps i)).1, cw (bB ss (i + 1)).2 (cW (some (aZ cs i), some (aZ cs i)) (aD ps i)).2) := by
    unfold eZ at em
    split at em
    ·cases em
    ·rename_i hc
     cases em
     exact ⟨by simpa using hc, rfl⟩
   have xf := hy.2 Ks.1
   refine ⟨y, m, rfl, by rw [Ks.2]; exact xf, ?_⟩
   have S7 := up.trans (ut.trans (s6.trans s7))
   have L7 := S7 _ _ L4
   obtain ⟨n1, n2, n3⟩ := bK _ (Kq cm)
   refine ⟨_, L7, by rw [List.length_map]; exact Nat.lt_of_le_of_lt (by omega : _ <= 1000) (by decide), cs ++ [gF m], _, _, rfl, g9 fl (s4.trans S7), by rw [aq, List.map_append]; rfl, by rw [aH (Ne.symm lc)]; exact S7 _ _ c4, kT.imp fun _ _ r => bb.put (bb.same r S7) L7, by rw [List.length_append, List.length_singleton]; omega, fun t ht => ?_, fun k hk => ?_⟩
   ·by_cases e : t = i + 1
    ·subst e
     rw [Kp cu]
     exact n1
    ·rw [xg (by omega)]
     exact hJ t (by omega)
   ·by_cases e : k = i
    ·subst e
     rw [Kp cu, xg (by omega)]
     exact ⟨n2, n3⟩
    ·rw [xg (by omega), xg (by omega)]
     exact cn k (by omega)
  ·rintro σ H4 ⟨cs, d1, d2, rfl, s4, L4, c4, kT, cu, hJ, cn⟩
   walk_at "gzn"
   rw [List.length_drop, show min xs.length (zs.length - 1) = ps.length by omega] at cu hJ cn
   exact q l cs H4 s4 fl L4 cu cn (meets_of TB ht hJ)
end
section
seal L2.PE L2.PS L2.bg L2.PA
variable {P : Program} {w : World} {K : PySem.W.Frag} {mg : Str -> Option Value} {base : Heap}
noncomputable def cA (H : Hp) (v : V) : Option P2 -> Prop
 | none => v = .non
 | some p => dh H v p
theorem cA.same {H H' : Hp} {v : V} {o : Option P2} (h : cA H v o) (s : aw H H') : cA H' v o := by
 cases o with
 | none => exact h
 | some p => exact dh.same h s
noncomputable def SD (K : PySem.W.Frag) : Sp := fun vs H Q _ => ∃ (v u : V) (a b : Option P2), vs = [v, u] /\ cA H v a /\ cA H u b /\ ∀ x, cA H x (fW a b) -> (x = v ∨ x = u) -> Q x H
theorem AV (T : Tx K mg) : aJ P w K mg base (aK P w) 1 T.iO T.vg ["one", "other"] (SD K) := by
 refine okN T.iP Rq (fun vs H Q E h => ?_) (fun aI A outer s H vs Q E hr h => ?_)
 ·obtain ⟨v, u, a, b, rfl, _⟩ := h
  rfl
 ·obtain ⟨v, u, a, b, rfl, ha, hb, q⟩ := h
  refine ⟨_, (aj (aN (PW.pt (cG (bp (bZ (pv 0))) (dc (bp (bZ (pv 1)))))) (av (aG (k9 (bp (bZ (pv 0))) (pv 1) (pv 0)))) aO)
  (av (aG (a6 (Qp rfl (lJ hr)) (by rfl) T.kN lK (aa (pv 0) (aa (pv 1) af)))))), ?_⟩
  rcases a with _ | a <;> rcases b with _ | b
  ·obtain rfl : v = .non := ha
   obtain rfl : u = .non := hb
   walk_at "gzn"
   exact q _ rfl (.inl rfl)
  ·obtain rfl : v = .non := ha
   obtain ⟨r, rfl, jP⟩ := id hb
   walk_at "gzn"
   exact q _ hb (.inr rfl)
  ·obtain rfl : u = .non := hb
   obtain ⟨r, rfl, jP⟩ := id ha
   walk_at "gzn"
   exact q _ ha (.inl rfl)
  ·obtain ⟨r, rfl, jP⟩ := id ha
   obtain ⟨r2, rfl, AW⟩ := id hb
   walk_at "gzn"
   refine ⟨a, jP, b, AW, ?_⟩
   by_cases hl : dj b a = true
   ·rw [if_pos hl]
    exact q _ (by show dh H _ (dk a b); unfold dk; rw [if_pos hl]; exact hb) (.inr rfl)
   ·rw [if_neg hl]
    exact q _ (by show dh H _ (dk a b); unfold dk; rw [if_neg hl]; exact ha) (.inl rfl)
noncomputable def SE (K : PySem.W.Frag) : Sp := fun vs H Q _ => ∃ (v : V) (a : Option P2) (b : Int), vs = [v, .int b] /\ cA H v a /\ ∀ x H', aw H H' -> cA H' x (l4 a b) -> Q x H'
theorem Kt (T : Tx K mg) : aJ P w K mg base (aK P w) 1 T.iQ T.vk ["one", "by"] (SE K) := by
 refine okN T.kE Rr (fun vs H Q E h => ?_) (fun aI A outer s H vs Q E hr h => ?_)
 ·obtain ⟨v, a, b, rfl, _⟩ := h
  rfl
 ·obtain ⟨v, a, b, rfl, ha, q⟩ := h
  refine ⟨_, (av (aG (k9 (bp (bZ (pv 0))) bA (aY (aa (aA a5 (ak ao (pv 0) ae (fun _ _ => rfl)) (pv 1)) (aa (ak ao (pv 0) ae (fun _ _ => rfl)) af)))))), ?_⟩
  rcases a with _ | a
  ·obtain rfl : v = .non := ha
   walk_at "gzn"
   exact q _ _ (aw.refl _) rfl
  ·obtain ⟨r, rfl, jP⟩ := id ha
   walk_at "gzn"
   refine aF (ai.of jP) rfl ?_
   walk_at "gzn"
   refine aF (ai.of jP) rfl ⟨bo, fun p hp => q _ _ (au hp) ⟨p, rfl, aq⟩⟩
noncomputable def SF (K : PySem.W.Frag) : Sp := fun vs H Q _ => ∃ (a b : Addr) (xs ys : List V) (ps : List P2) (ms : List Mk), vs = [.ref a, .ref b] /\ ah K H a xs /\ dO H xs ps /\ ah K H b ys /\ ay (dm H) ys ms /\ eo ps /\ ps.length <= 900 /\ ms.length <= 1000 /\ (∀ m ∈ ms, m.1 <= ps.length) /\
 ∀ l zs ts H', aw H H' -> H l = none -> H' l = some (.lst zs) -> ay (cA H') zs ts -> ts.length = ps.length + 1 -> qM ps ms (cy ts) -> Q (.ref l) H'
noncomputable def kU (P : Nat -> (Nat -> Option P2) -> Prop) (H : Hp) (a b l : Addr) (n : Nat) (i : Nat) (σ : St) (H1 : Hp) : Prop := ∃ (zs : List V) (ts : List (Option P2)) (e1 e2 e3 : Option V), σ = [some (.ref a), some (.ref b), some (.ref l), e1, e2, e3] /\ aw H H1 /\ H1 l = some (.lst zs) /\ ay (cA H1) zs ts /\ ts.length = n + 1 /\ P i (cy ts)
theorem cA.put {H : Hp} {v : V} {o : Option P2} {l : Addr} {ys zs : List V} (h : cA H v o) (hl : H l = some (.lst ys)) : cA (upd H l (.lst zs)) v o := by
 cases o with
 | none => exact h
 | some p => exact dh.put h hl
theorem ay.Ku {α : Type} {R : V -> α -> Prop} {x : V} {a : α} (r : R x a) : ∀ {xs : List V} {as : List α} (j : Nat), ay R xs as -> ay R (xs.set j x) (as.set j a)
 | [], [], _, _ => trivial
 | _ :: _, _ :: _, 0, h => ⟨r, h.2⟩
 | _ :: _, _ :: _, j + 1, h => ⟨h.1, ay.Ku r j h.2⟩
 | [], _ :: _, _, h => h.elim
 | _ :: _, [], _, h => h.elim
theorem oH {H : Hp} {zs : List V} {ts : List (Option P2)} {t : Nat} (h : ay (cA H) zs ts) (ht : t < ts.length) : ∃ v, b8 zs (t : Int) = some v /\ cA H v (cy ts t) := by
 obtain ⟨v, hv, r⟩ := h.at (List.getElem?_eq_getElem ht)
 refine ⟨v, df hv, ?_⟩
 unfold cy
 rw [List.getD_eq_getElem?_getD, List.getElem?_eq_getElem ht]
 exact r
theorem AX {n t : Nat} (h : t < n) : fo n (t : Int) = some t := by
 unfold fo
 rw [if_pos (by omega), if_pos (by omega), Int.toNat_natCast]
theorem AY {P : Nat -> (Nat -> Option P2) -> Prop} {H : Hp} {a b l : Addr} {n i : Nat} {zs : List V} {ts : List (Option P2)} {H1 : Hp} {v : V} {x : Option P2} {t : Nat} {d1 d2 d3 : Option V} (b0 : H l = none) (s : aw H H1) (hl : H1 l = some (.lst zs)) (hz : ay (cA H1) zs ts) (hlen : ts.length = n + 1) (hv : cA H1 v x) (ht : t < n + 1) (hP : P i (fX (cy ts) t x)) : kU P H a b l n i [some (.ref a), some (.ref b), some (.ref l), d1, d2, d3] (upd H1 l (.lst (zs.set t v))) :=
 ⟨zs.set t v, ts.set t x, d1, d2, d3, rfl, g9 b0 s, aq, (ay.Ku hv t hz).imp fun _ _ r => r.put hl, by rw [List.length_set]; exact hlen, by rw [Qk (by omega)]; exact hP⟩
theorem SG (n : Nat) : ik ((n : Int) - 1) (-1) (-1) = n := by
 unfold ik Builtin.Range.rangeSize
 simp only [show ¬ ((-1 : Int) > 0) by omega, if_false, show (- (-1 : Int)) = 1 by omega, Int.ediv_one]
 split <;> omega
theorem SH (T : Tx K mg) : aJ P w K mg base (aK P w) 2 T.iR T.vm ["steps", "marks"] (SF K) := by
 refine okN T.nM nz (fun vs H Q E h => ?_) (fun aI A outer s H vs Q E hr h => ?_)
 ·obtain ⟨a, b, xs, ys, ps, ms, rfl, _⟩ := h
  rfl
 ·obtain ⟨a, b, xs, ys, ps, ms, rfl, hS, hP, hT, hM, ar, hn, hm, ht, q⟩ := h
  refine ⟨_, (aj (Hb (i := 2) (cP.mk (fr := []) (ys := []) rfl (by decide +kernel) rfl (by decide +kernel) rfl rfl .nil .nil (by decide) rfl) rfl nz.nd rfl rfl (fh rfl T.dS (aa (aA a5 (a6 cD (by rfl) T.cz cE (aa (pv 0) af)) ae) af)) (fun C s2 H2 ex pn => ⟨gE, bA⟩))
  (aj (cI PassesOwn.never rfl (zE rfl T.rL (aa (pv 1) af)) (d8 rfl (bE (bc (i := 3) nz.nd rfl (Or.inl rfl)) (bE (bc (i := 4) nz.nd rfl (Or.inl rfl)) d0))) (av (aN (bp (cC (ak ao (ak ao (pv 4) ae (fun _ _ => rfl)) ae (fun _ _ => rfl)))) (av (ph (aE (AV T) (hr.mono (by decide)) rfl T.vh T.iP.kp T.nK .nil aC (aa (ak ao (pv 2) (ak ao (pv 4) ae (fun _ _ => rfl)) (fun _ _ => rfl)) (aa (aY (aa (ak ao (ak ao (pv 4) ae (fun _ _ => rfl)) ae (fun _ _ => rfl)) (aa (pv 3) af))) af))) (yE (pv 2) (ak ao (pv 4) ae (fun _ _ => rfl)) set_list))) aO)))
  (aj (cI PassesOwn.never rfl (fh rfl T.dS (aa (a6 cD (by rfl) T.cz cE (aa (pv 0) af)) af)) (bc (i := 5) nz.nd rfl (Or.inl rfl)) (av (ph (aE (AV T) (hr.mono (by decide)) rfl T.vh T.iP.kp T.nK .nil aC (aa (ak ao (pv 2) (aA a5 (pv 5) ae) (fun _ _ => rfl)) (aa (aE (Kt T) (hr.mono (by decide)) rfl T.Ax T.kE.kp T.rm .nil aC (aa (ak ao (pv 2) (pv 5) (fun _ _ => rfl)) (aa (ak ao (ak ao (pv 0) (pv 5) (fun _ _ => rfl)) ae (fun _ _ => rfl)) af))) af))) (yE (pv 2) (aA a5 (pv 5) ae) set_list))))
  (aj (cI PassesOwn.never rfl (OX rfl T.dS (aa (aA cU (a6 cD (by rfl) T.cz cE (aa (pv 0) af)) ae) (aa (dw dz ae) (aa (dw dz ae) af)))) (bc (i := 5) nz.nd rfl (Or.inl rfl)) (av (ph (aE (AV T) (hr.mono (by decide)) rfl T.vh T.iP.kp T.nK .nil aC (aa (ak ao (pv 2) (pv 5) (fun _ _ => rfl)) (aa (aE (Kt T) (hr.mono (by decide)) rfl T.Ax T.kE.kp T.rm .nil aC (aa (ak ao (pv 2) (aA a5 (pv 5) ae) (fun _ _ => rfl)) (aa (dw dz (ak ao (ak ao (pv 0) (pv 5) (fun _ _ => rfl)) ae (fun _ _ => rfl))) af))) af))) (yE (pv 2) (pv 5) set_list))))
  (av (aG (pv 2))))))), ?_⟩
  have l1 := hP.len
  have l2 := hM.len
  refine a7 (fun σ H1 => ∃ l, σ = [some (.ref a), some (.ref b), some (.ref l), none, none, none] /\ aw H H1 /\ H l = none /\ H1 l = some (.lst (List.replicate (ps.length + 1) .non))) (fun N hN => ?_) ?_
  ·walk_at "gzn"
   refine ⟨_, dg hS, by omega, by omega, ?_⟩
   rw [l1, show ((ps.length : Int) + 1).toNat = ps.length + 1 by omega]
   refine eV kl (by rw [List.length_map, List.length_range]; exact Nat.le_trans (by omega : _ <= 901) (by decide)) (tU (p := fun _ => true) (f := fun _ => .non) trivial (fun x _ Q h => ?_) (fun x _ _ Q h => ?_) ?_)
   ·walk_at "gzn"
    exact h
   ·walk_at "gzn"
    exact h
   rw [List.nil_append, filter_tt]
   intro l hl
   refine hN _ _ ⟨l, rfl, au hl, hl, ?_⟩
   rw [aq]
   congr 2
   refine List.ext_getElem? fun k => ?_
   rw [List.getElem?_map, List.getElem?_map, List.getElem?_replicate]
   by_cases hk : k < ps.length + 1
   ·rw [List.getElem?_range hk, if_pos hk]; rfl
   ·rw [List.getElem?_eq_none (by rw [List.length_range]; omega), if_neg hk]; rfl
  rintro σ H1 ⟨l, rfl, s1, b0, AZ⟩
  refine a7 (kU (T1 ps ms) H a b l ps.length ms.length) (fun N hN => ?_) ?_
  ·walk_at "gzn"
   refine ⟨⟨_, s1.seq hT⟩, zG (xs := ys) (kU (T1 ps ms) H a b l ps.length) ⟨_, List.replicate (ps.length + 1) none, _, _, _, rfl, s1, AZ, ?_, by rw [List.length_replicate], by rw [Ql]; exact T1.nil⟩ ?_ ?_ ?_⟩
   ·have : ∀ k, ay (cA H1) (List.replicate k .non) (List.replicate k none) := fun k => by
     induction k with
     | zero => exact trivial
     | succ k ih => exact ⟨rfl, ih⟩
    exact this _
   ·rintro i σ H2 _ ⟨_, _, _, _, _, _, s2, _⟩
    exact s2.seq hT
   ·rintro i x σ H2 p hx ⟨zs, ts, d1, d2, d3, rfl, s2, bV, hz, dW, oI⟩ hp
    obtain ⟨m, kW, tp, sp, rfl, h1, h2⟩ := hM.get hx
    have gC := ht m (List.mem_of_getElem? kW)
    have up := au (o := .tup [.int i, .ref tp]) hp
    refine km (ai.of aq) ?_
    generalize upd H2 p (.tup [.int i, .ref tp]) = H3 at up ⊢
    have s3 := s2.trans up
    have g1 := s3 _ _ h1
    have g2 := s3 _ _ h2
    have bC := up _ _ bV
    have cM := hz.imp fun _ _ r => r.same up
    obtain ⟨mt, lo, hi⟩ := m
    walk_at "gzn"
    refine aF (ai.of g1) rfl (aF (ai.of g2) rfl ?_)
    cases hi with
    | none =>
     walk_at "gzn"
     exact ⟨zs, ts, _, _, _, rfl, s3, bC, cM, dW, oI.skip kW rfl⟩
    | some h =>
     walk_at "gzn"
     obtain ⟨v, hv, rv⟩ := oH cM (t := mt) (by dsimp only at gC; omega)
     refine aF (ai.of g1) rfl (aL (ah.of bC) hv (aF (ai.of g1) rfl (aF (ai.of g2) rfl ?_)))
     walk_at "gzn"
     refine ⟨bo, fun t1 AU => ?_⟩
     have ut := au (o := .tup [.int h, .int i]) AU
     have S4 := s3.trans ut
     refine ⟨v, .ref t1, _, some (h, (i : Int)), rfl, rv.same ut, ⟨t1, rfl, aq⟩, fun y hy _ => ?_⟩
     refine aF (ai.of (ut _ _ g1)) rfl ?_
     exact ⟨zs, _, rfl, ut _ _ bC, mt, AX (by rw [hz.len, dW]; dsimp only at gC; omega), AY b0 S4 (ut _ _ bC) (cM.imp fun _ _ r => r.same ut) dW hy (by dsimp only at gC; omega) (oI.put kW rfl)⟩
   ·rintro σ H2 h
    rw [l2] at h
    exact hN _ _ h
  rintro σ H2 h2
  refine a7 (kU (T2 ps ms) H a b l ps.length ps.length) (fun N hN => ?_) ?_
  ·obtain ⟨zs, ts, d1, d2, d3, rfl, s2, bV, hz, dW, oI⟩ := h2
   walk_at "gzn"
   refine ⟨_, dg (s2.seq hS), ?_⟩
   rw [l1]
   refine ⟨by omega, by omega, ?_⟩
   rw [Int.toNat_natCast]
   refine qi (kU (T2 ps ms) H a b l ps.length) ⟨zs, ts, d1, d2, d3, rfl, s2, bV, hz, dW, oI.two⟩ ?_ (fun σ H3 h => hN _ _ h)
   rintro i σ H3 hi ⟨zs, ts, d1, d2, d3, rfl, s3, bC, cM, dW, SI⟩
   have zl := cM.len
   obtain ⟨v, hv, rv⟩ := oH cM (t := i + 1) (by omega)
   obtain ⟨u, hu, ru⟩ := oH cM (t := i) (by omega)
   obtain ⟨w, hw, tw, rfl, A0⟩ := hP.at (AS hi)
   walk_at "gzn"
   rw [show (0 : Int) + (i : Int) = ((i : Nat) : Int) by omega, show ((i : Nat) : Int) + 1 = ((i + 1 : Nat) : Int) by omega]
   refine aL (ah.of bC) hv (aL (ah.of bC) hu (aL (s3.seq hS) (df hw) (aF (ai.of (s3 _ _ A0)) rfl ?_)))
   refine ⟨u, _, _, rfl, ru, fun y H4 s4 hy => ?_⟩
   refine ⟨v, y, _, _, rfl, rv.same s4, hy, fun z A3 _ => ?_⟩
   exact ⟨zs, s4 _ _ bC, i + 1, AX (by omega), AY b0 (s3.trans s4) (s4 _ _ bC) (cM.imp fun _ _ r => r.same s4) dW A3 (by omega) (SI.step ar ht hi)⟩
  rintro σ H3 h3
  refine a7 (kU (fun i => T3 ps ms (ps.length - i)) H a b l ps.length ps.length) (fun N hN => ?_) ?_
  ·obtain ⟨zs, ts, d1, d2, d3, rfl, s2, bV, hz, dW, oI⟩ := h3
   walk_at "gzn"
   refine ⟨_, dg (s2.seq hS), ?_⟩
   rw [l1, SG]
   refine ⟨by omega, by omega, by decide, by decide, by decide, by decide, by decide, OZ (kU (fun i => T3 ps ms (ps.length - i)) H a b l ps.length) ⟨zs, ts, d1, d2, d3, rfl, s2, bV, hz, dW, oI.three⟩ ?_ (fun σ H3 h => hN _ _ h)⟩
   rintro i σ H3 hi ⟨zs, ts, d1, d2, d3, rfl, s3, bC, cM, dW, xh⟩
   have zl := cM.len
   obtain ⟨j, hj⟩ : ∃ j, ps.length = j + 1 + i := ⟨ps.length - 1 - i, by omega⟩
   obtain ⟨v, hv, rv⟩ := oH cM (t := j + 1) (by omega)
   obtain ⟨u, hu, ru⟩ := oH cM (t := j) (by omega)
   obtain ⟨w, hw, tw, rfl, A0⟩ := hP.at (AS (ps := ps) (i := j) (by omega))
   walk_at "gzn"
   rw [show (ps.length : Int) - 1 + (i : Int) * -1 = ((j : Nat) : Int) by omega, show ((j : Nat) : Int) + 1 = ((j + 1 : Nat) : Int) by omega]
   refine aL (ah.of bC) hu (aL (ah.of bC) hv (aL (s3.seq hS) (df hw) (aF (ai.of (s3 _ _ A0)) rfl ?_)))
   walk_at "gzn"
   refine ⟨v, _, _, rfl, rv, fun y H4 s4 hy => ?_⟩
   refine ⟨u, y, _, _, rfl, ru.same s4, hy, fun z A3 _ => ?_⟩
   refine ⟨zs, s4 _ _ bC, j, AX (by omega), AY b0 (s3.trans s4) (s4 _ _ bC) (cM.imp fun _ _ r => r.same s4) dW A3 (by omega) ?_⟩
   show T3 ps ms (ps.length - (i + 1)) _
   rw [show ps.length - (i + 1) = j by omega]
   have xh : T3 ps ms (ps.length - i) (cy ts) := xh
   rw [show ps.length - i = j + 1 by omega] at xh
   exact xh.step ar ht (by omega)
  rintro σ H4 ⟨zs, ts, d1, d2, d3, rfl, s4, rN, kT, dW, Kv⟩
  rw [Nat.sub_self] at Kv
  walk_at "gzn"
  exact q l zs ts H4 s4 b0 rN kT dW Kv.tops
end
section
seal L2.PE L2.PS L2.bg L2.PA
variable {P : Program} {w : World} {K : PySem.W.Frag} {mg : Str -> Option Value} {base : Heap}
noncomputable def SJ (K : PySem.W.Frag) : Sp := fun vs H Q _ => ∃ (a b : Addr) (zs ys : List V) (ts : List (Option P2)) (ms : List Mk), vs = [.ref a, .ref b] /\ ah K H a zs /\ ay (cA H) zs ts /\ ah K H b ys /\ ay (dm H) ys ms /\ (∀ m ∈ ms, m.1 < ts.length) /\
 (uz ms (cy ts) -> ∀ H', aw H H' -> Q .non H') /\
 (∀ (j : Nat) m l v k, ms[j]? = some m -> m.2.1 = some l -> cy ts m.1 = some (v, k) -> v < l -> ∀ p H', aw H H' -> H p = none -> H' p = some (.tup [.int k, .int j]) -> Q (.ref p) H')
noncomputable def SK (H : Hp) (a b : Addr) (ts : List (Option P2)) (ms : List Mk) (i : Nat) (σ : St) (H1 : Hp) : Prop := ∃ (e1 e2 e3 : Option V), σ = [some (.ref a), some (.ref b), e1, e2, e3] /\ aw H H1 /\ uz (ms.take i) (cy ts)
theorem SM (T : Tx K mg) : aJ P w K mg base (aK P w) 1 T.iS T.vp ["tops", "marks"] (SJ K) := by
 refine okN T.nN uP (fun vs H Q E h => ?_) (fun aI A outer s H vs Q E hr h => ?_)
 ·obtain ⟨a, b, zs, ys, ts, ms, rfl, _⟩ := h
  rfl
 ·obtain ⟨a, b, zs, ys, ts, ms, rfl, hA, hZ, hT, hM, ht, q0, q⟩ := h
  refine ⟨_, (aj (cI PassesOwn.never rfl (zE rfl T.rL (aa (pv 1) af)) (d8 rfl (bE (bc (i := 2) uP.nd rfl (Or.inl rfl)) (bE (bc (i := 3) uP.nd rfl (Or.inl rfl)) d0))) (aj (az (i := 4) uP.nd rfl (Or.inl rfl) (ak ao (pv 0) (ak ao (pv 3) ae (fun _ _ => rfl)) (fun _ _ => rfl)))
   (av (aN (PW.pt (du (bp (cC (pv 4))) (du (bp (cC (ak ao (ak ao (pv 3) ae (fun _ _ => rfl)) ae (fun _ _ => rfl)))) (dZ (aX fm (ak ao (ak ao (pv 3) ae (fun _ _ => rfl)) ae (fun _ _ => rfl)) (ak ao (pv 4) ae (fun _ _ => rfl)) (aR _)))))) (av (aG (aY (aa (ak ao (pv 4) ae (fun _ _ => rfl)) (aa (pv 2) af))))) aO))))
  (av (aG bA))), ?_⟩
  have l1 := hZ.len
  have l2 := hM.len
  walk_at "gzn"
  refine ⟨⟨_, hT⟩, zG (xs := ys) (SK H a b ts ms) ⟨_, _, _, rfl, aw.refl _, fun m h => by simp at h⟩ ?_ ?_ ?_⟩
  ·rintro i σ H2 _ ⟨_, _, _, _, s2, _⟩
   exact s2.seq hT
  ·rintro i x σ H2 p hx ⟨d1, d2, d3, rfl, s2, eN⟩ hp
   obtain ⟨m, kW, tp, sp, rfl, h1, h2⟩ := hM.get hx
   have gC := ht m (List.mem_of_getElem? kW)
   have up := au (o := .tup [.int i, .ref tp]) hp
   refine km (ai.of aq) ?_
   generalize upd H2 p (.tup [.int i, .ref tp]) = H3 at up ⊢
   have s3 := s2.trans up
   have g1 := s3 _ _ h1
   have g2 := s3 _ _ h2
   have next : (∀ l v k, m.2.1 = some l -> cy ts m.1 = some (v, k) -> l <= v) -> uz (ms.take (i + 1)) (cy ts) := fun hh n hn => by
    rw [List.take_succ, kW] at hn
    rcases List.mem_append.mp hn with z | z
    ·exact eN n z
    ·obtain rfl : n = m := by simpa using z
     exact hh
   obtain ⟨v, hv, rv⟩ := oH hZ gC
   obtain ⟨mt, lo, hi⟩ := m
   walk_at "gzn"
   refine aF (ai.of g1) rfl (aL (s3.seq hA) hv ?_)
   cases et : cy ts mt with
   | none =>
    rw [show cy ts (mt, lo, hi).1 = none from et] at rv
    obtain rfl : v = .non := rv
    walk_at "gzn"
    exact ⟨_, _, _, rfl, s3, next fun l v k _ e => by rw [show cy ts (mt, lo, hi).1 = none from et] at e; cases e⟩
   | some q2 =>
    obtain ⟨w, k⟩ := q2
    rw [show cy ts (mt, lo, hi).1 = some (w, k) from et] at rv
    obtain ⟨rt, rfl, hrt⟩ := rv
    walk_at "gzn"
    refine aF (ai.of g1) rfl (aF (ai.of g2) rfl ?_)
    cases lo with
    | none =>
     walk_at "gzn"
     exact ⟨_, _, _, rfl, s3, next fun l v k e _ => by cases e⟩
    | some l =>
     walk_at "gzn"
     refine aF (ai.of g1) rfl (aF (ai.of g2) rfl (aF (ai.of (s3 _ _ hrt)) rfl ?_))
     walk_at "gzn"
     refine bz (fun hc => ?_) fun hc => ?_
     ·exact aF (ai.of (s3 _ _ hrt)) rfl ⟨bo, fun r eA => q i _ l w k kW rfl et hc r _ (s3.trans (au eA)) (s3.free eA) aq⟩
     ·exact ⟨_, _, _, rfl, s3, next fun l' v' k' e1 e2 => by
       cases e1
       rw [show cy ts (mt, some l, hi).1 = some (w, k) from et] at e2
       cases e2
       omega⟩
  ·rintro σ H2 ⟨d1, d2, d3, rfl, s2, eN⟩
   walk_at "gzn"
   rw [l2, List.take_length] at eN
   exact q0 eN _ s2
end
section
seal L2.PE L2.PS L2.bg L2.PA
variable {P : Program} {w : World} {K : PySem.W.Frag} {mg : Str -> Option Value} {base : Heap}
noncomputable def Kw (K : PySem.W.Frag) (B : Addr) : Sp := fun vs H Q _ => ∃ (x p : Addr) (w : V) (e t u d m : Int), vs = [.ref x, w] /\ dU B H x e t u d m p [] /\ ∀ l H', aw H H' -> H l = none -> H' l = some (.lst []) -> Q (.ref l) H'
theorem SN (T : Tx K mg) : aJ P w K mg base (aK P w) 2 T.iY T.vC ["board", "eye"] (Kw K T.bf) := by
 refine okN T.nR Rw (fun vs H Q E h => ?_) (fun aI A outer s H vs Q E hr h => ?_)
 ·obtain ⟨x, p, w, e, t, u, d, m, rfl, _⟩ := h
  rfl
 ·obtain ⟨x, p, w, e, t, u, d, m, rfl, hb, q⟩ := h
  refine ⟨_, (av (aG (Hu (g := jX K 3 (cf (b6 0) (cf (b6 1) (cf (b6 2) ff)))) (qF.mk (own := ["teller", "turn", "word"]) (fr := [1]) (ys := ["eye"]) rfl (by decide +kernel) rfl (by decide +kernel) rfl (.cons rfl .nil) (.cons rfl rfl rfl rfl .nil) rfl) rfl (ec (yO (pv 0) T.b9 T.w9 (AQ T) (hr.mono (by decide)) T.n4 .nil aC)) (fun C s2 H2 ex pn => d8 (n := 3) rfl (bE (bc (i := 0) (show (["teller", "turn", "word", "eye"] : List Str).Nodup by decide) rfl (.inl (lookup_relabel_local rfl)) (.inr (lookup_relabel_local rfl))) (bE (bc (i := 1) (show (["teller", "turn", "word", "eye"] : List Str).Nodup by decide) rfl (.inl (lookup_relabel_local rfl)) (.inr (lookup_relabel_local rfl))) (bE (bc (i := 2) (show (["teller", "turn", "word", "eye"] : List Str).Nodup by decide) rfl (.inl (lookup_relabel_local rfl)) (.inr (lookup_relabel_local rfl))) d0)))) (fun C s2 H2 ex pn => ⟨(ke (aX bJ (pv 0) (pv 3) (aR _))), (aY (aa (pv 1) (aa (pv 2) af)))⟩)))), ?_⟩
  obtain ⟨⟨dx, hx⟩, hp⟩ := id hb
  walk_at "gzn"
  refine ⟨_, _, hx, rfl, x, p, e, t, u, d, m, rfl, hb, fun l H1 s1 fl hl => ?_⟩
  refine ⟨l, rfl, ⟨_, ah.of hl⟩, Ih (row := rowOf H1) (xs := []) (by decide) (And.intro ⟨ah.of hl, fun x hx => nomatch hx⟩ fun l2 bV => q _ _ (s1.trans (au bV)) (s1.free bV) aq)⟩
theorem SO (T : Tx K mg) : aJ P w K mg base (aK P w) 2 T.iZ T.vE ["board", "some"] (Kw K T.bf) := by
 refine okN T.nT Rx (fun vs H Q E h => ?_) (fun aI A outer s H vs Q E hr h => ?_)
 ·obtain ⟨x, p, w, e, t, u, d, m, rfl, _⟩ := h
  rfl
 ·obtain ⟨x, p, w, e, t, u, d, m, rfl, hb, q⟩ := h
  refine ⟨_, (av (aG (Hu (g := jX K 3 (cf (b6 0) (cf (b6 1) (cf (b6 2) ff)))) (qF.mk (own := ["teller", "turn", "word"]) (fr := [1]) (ys := ["some"]) rfl (by decide +kernel) rfl (by decide +kernel) rfl (.cons rfl .nil) (.cons rfl rfl rfl rfl .nil) rfl) rfl (ec (yO (pv 0) T.b9 T.w9 (AQ T) (hr.mono (by decide)) T.n4 .nil aC)) (fun C s2 H2 ex pn => d8 (n := 3) rfl (bE (bc (i := 0) (show (["teller", "turn", "word", "some"] : List Str).Nodup by decide) rfl (.inl (lookup_relabel_local rfl)) (.inr (lookup_relabel_local rfl))) (bE (bc (i := 1) (show (["teller", "turn", "word", "some"] : List Str).Nodup by decide) rfl (.inl (lookup_relabel_local rfl)) (.inr (lookup_relabel_local rfl))) (bE (bc (i := 2) (show (["teller", "turn", "word", "some"] : List Str).Nodup by decide) rfl (.inl (lookup_relabel_local rfl)) (.inr (lookup_relabel_local rfl))) d0)))) (fun C s2 H2 ex pn => ⟨(ke (aX (OM (K := K) rfl) (pv 0) (pv 3) (by with_unfolding_all rfl))), (aY (aa (pv 1) (aa (pv 2) af)))⟩)))), ?_⟩
  obtain ⟨⟨dx, hx⟩, hp⟩ := id hb
  walk_at "gzn"
  refine ⟨_, _, hx, rfl, x, p, e, t, u, d, m, rfl, hb, fun l H1 s1 fl hl => ?_⟩
  refine ⟨l, rfl, ⟨_, ah.of hl⟩, Ih (row := rowOf H1) (xs := []) (by decide) (And.intro ⟨ah.of hl, fun x hx => nomatch hx⟩ fun l2 bV => q _ _ (s1.trans (au bV)) (s1.free bV) aq)⟩
end
section
seal L2.PE L2.PS L2.bg L2.PA
variable {P : Program} {w : World} {K : PySem.W.Frag} {mg : Str -> Option Value} {base : Heap}
noncomputable def oJ (H : Hp) (v : V) (r : V × List Mk) : Prop := ∃ (g k : Addr) (zs : List V), v = .ref g /\ H g = some (.tup [r.1, .ref k]) /\ H k = some (.lst zs) /\ ay (dm H) zs r.2
theorem oJ.same {H H' : Hp} {v : V} {r : V × List Mk} (h : oJ H v r) (s : aw H H') : oJ H' v r := let ⟨g, k, zs, e, a, b, c⟩ := h; ⟨g, k, zs, e, s _ _ a, s _ _ b, c.imp fun _ _ x => x.same s⟩
noncomputable def SQ (K : PySem.W.Frag) (B : Addr) : Sp := fun vs H Q _ => ∃ (x p : Addr) (e t u d m : Int), vs = [.ref x] /\ dU B H x e t u d m p [] /\ 0 <= e /\ e <= 7 /\ ∀ l ys H', aw H H' -> H l = none -> H' l = some (.lst ys) -> ay (oJ H') ys ((List.range e.toNat).map fun i => ((.int (i : Nat), []) : V × List Mk)) -> Q (.ref l) H'
theorem SR (T : Tx K mg) : aJ P w K mg base (aK P w) 3 T.i0 T.vG ["board"] (SQ K T.bf) := by
 refine okN T.nU Ry (fun vs H Q E h => ?_) (fun aI A outer s H vs Q E hr h => ?_)
 ·obtain ⟨x, p, e, t, u, d, m, rfl, _⟩ := h
  rfl
 ·obtain ⟨x, p, e, t, u, d, m, rfl, hb, h0, h7, q⟩ := h
  refine ⟨_, (av (aG (eU (cP.mk (fr := [0]) (ys := ["board"]) rfl (by decide +kernel) rfl (by decide +kernel) rfl rfl (.cons rfl .nil) (.cons rfl rfl rfl rfl .nil) (by decide) rfl) rfl (fh rfl T.dS (aa (gv (pv 0) rfl) af)) (fun C s2 H2 ex pn => ⟨gE, (aY (aa (pv 0) (aa (aE (SN T) (hr.mono (by decide)) rfl T.IZ T.nR.kp T.vD .nil aC (aa (pv 1) (aa (pv 0) af))) af)))⟩)))), ?_⟩
  obtain ⟨⟨dx, hx⟩, hp⟩ := id hb
  walk_at "gzn"
  refine ⟨_, _, _, hx, T.b9, T.kO, _, rfl, ?_⟩
  refine ⟨e, rfl, by omega, by omega, eV kl (by rw [List.length_map, List.length_range]; exact Nat.le_trans (by omega : _ <= 12) (by decide)) (il (R := fun _ x (k : Nat) => x = V.int ((0 : Int) + k)) (R' := oJ) (f := fun (k : Nat) => ((.int (k : Int), []) : V × List Mk)) (fun _ _ _ _ _ h => h) (fun _ _ _ _ s' h => h.same s') (ay.eG _) (bs := []) trivial (fun _ _ => trivial) (fun x k _ H2 s2 r Q h => ?_) (fun x k _ H2 s2 r Q h => ?_) fun H2 zs s2 hz => ?_)⟩
  ·walk_at "gz"
   exact h
  ·subst r
   walk_at "gz"
   rw [Int.zero_add]
   refine ⟨x, p, _, e, t, u, d, m, rfl, hb.same s2, fun l H3 s3 _ hl => ⟨bo, fun g hg => ?_⟩⟩
   have u1 := au (o := .tup [.int (k : Int), .ref l]) hg
   exact h _ _ (s3.trans u1) ⟨g, l, [], rfl, aq, u1 _ _ hl, trivial⟩
  ·intro l hl
   rw [List.nil_append] at hz
   exact q l zs _ (s2.trans (au hl)) (s2.free hl) aq (hz.imp fun _ _ r => r.same (au hl))
end
section
seal L2.PE L2.PS L2.bg L2.PA
variable {P : Program} {w : World} {K : PySem.W.Frag} {mg : Str -> Option Value} {base : Heap}
noncomputable def oK (H : Hp) (v : V) (i j : Nat) : Prop := ∃ (t a b : Addr), v = .ref t /\ H t = some (.tup [.ref a, .ref b]) /\ H a = some (.tup [.non, .int (i : Int)]) /\ H b = some (.tup [.non, .int (j : Int)])
theorem oK.same {H H' : Hp} {v : V} {i j : Nat} (h : oK H v i j) (s : aw H H') : oK H' v i j := let ⟨t, a, b, e, h1, h2, h3⟩ := h; ⟨t, a, b, e, s _ _ h1, s _ _ h2, s _ _ h3⟩
noncomputable def oM (ps : List P2) (ms : List Mk) (H : Hp) (l : Addr) : Prop := (H l = some (.lst []) /\ ∃ c, iu ps c /\ meets ms c) ∨ ∃ v m n, H l = some (.lst [v]) /\ m ∈ ms /\ n ∈ ms /\ clash ps m n /\ oK H v m.1 n.1
theorem oM.same {ps : List P2} {ms : List Mk} {H H' : Hp} {l : Addr} (h : oM ps ms H l) (s : aw H H') : oM ps ms H' l := by
 rcases h with ⟨a, b⟩ | ⟨v, m, n, a, b, c, d, e⟩
 ·exact .inl ⟨s _ _ a, b⟩
 ·exact .inr ⟨v, m, n, s _ _ a, b, c, d, e.same s⟩
noncomputable def kX (z : Prop) (ps : List P2) (ms : List Mk) (H : Hp) (l : Addr) : Prop := (z -> H l = some (.lst [])) /\ (¬ z -> oM ps ms H l)
theorem kX.same {z : Prop} {ps : List P2} {ms : List Mk} {H H' : Hp} {l : Addr} (h : kX z ps ms H l) (s : aw H H') : kX z ps ms H' l := ⟨fun x => s _ _ (h.1 x), fun x => (h.2 x).same s⟩
theorem kX.lst {z : Prop} {ps : List P2} {ms : List Mk} {H : Hp} {l : Addr} (h : kX z ps ms H l) : ∃ ys, H l = some (.lst ys) := by
 by_cases hz : z
 ·exact ⟨_, h.1 hz⟩
 ·rcases h.2 hz with ⟨a, _⟩ | ⟨v, _, _, a, _⟩
  ·exact ⟨_, a⟩
  ·exact ⟨_, a⟩
theorem SS {H H' : Hp} {v : V} {o : Option P2} {l : Addr} {ys : List V} (h : cA H v o) (hl : H l = some (.lst ys)) (k : ∀ b o, b ≠ l -> H b = some o -> H' b = some o) : cA H' v o := by
 cases o with
 | none => exact h
 | some p =>
  obtain ⟨t, e, a⟩ := h
  exact ⟨t, e, k _ _ (fun z => by rw [z, hl] at a; cases a) a⟩
noncomputable def SU (K : PySem.W.Frag) : Sp := fun vs H Q _ => ∃ (a b : Addr) (xs ys : List V) (ps : List P2) (ms : List Mk) (rs : List (V × List Mk)), vs = [.ref a, .ref b] /\ ah K H a xs /\ dO H xs ps /\ eo ps /\ ps.length <= 900 /\ ah K H b ys /\ ay (oJ H) ys ((.non, ms) :: rs) /\ (∀ r ∈ rs, r.2 = []) /\ ms.length <= 1000 /\ (∀ m ∈ ms, m.1 <= ps.length) /\ ∀ l H', aw H H' -> H l = none -> oM ps ms H' l -> Q (.ref l) H'
noncomputable def Kx (H : Hp) (a b l : Addr) (ps : List P2) (ms : List Mk) (i : Nat) (σ : St) (H1 : Hp) : Prop := ∃ (e1 e2 e3 e4 e5 e6 : Option V), σ = [some (.ref a), some (.ref b), some (.ref l), e1, e2, e3, e4, e5, e6] /\ aw H H1 /\ kX (i = 0) ps ms H1 l
noncomputable def SV (H H0 : Hp) (a b l : Addr) (nm mk tp : V) (ps : List P2) (ms : List Mk) (i j : Nat) (σ : St) (H1 : Hp) : Prop := ∃ (e4 e5 e6 : Option V), σ = [some (.ref a), some (.ref b), some (.ref l), some nm, some mk, some tp, e4, e5, e6] /\ aw H H1 /\ (∀ b o, b ≠ l -> H0 b = some o -> H1 b = some o) /\ kX (i = 0 /\ j = 0) ps ms H1 l
theorem rP {ms : List Mk} {rs : List (V × List Mk)} {i : Nat} {r : V × List Mk} (hr : ∀ r ∈ rs, r.2 = []) (h : (((.non, ms) : V × List Mk) :: rs)[i]? = some r) : (i = 0 /\ r = (.non, ms)) ∨ (i ≠ 0 /\ r.2 = []) := by
 cases i with
 | zero => cases h; exact .inl ⟨rfl, rfl⟩
 | succ i => exact .inr ⟨by omega, hr r (List.mem_of_getElem? h)⟩
theorem SW (T : Tx K mg) : aJ P w K mg base (aK P w) 3 T.i3 T.vI ["steps", "groups"] (SU K) := by
 refine okN T.nV iA (fun vs H Q E h => ?_) (fun aI A outer s H vs Q E hr h => ?_)
 ·obtain ⟨a, b, xs, ys, ps, ms, rs, rfl, _⟩ := h
  rfl
 ·obtain ⟨a, b, xs, ys, ps, ms, rs, rfl, hS, hP, ar, hn, hG, hA, eA, hm, ht, q⟩ := h
  refine ⟨_, (aj (az (i := 2) iA.nd rfl (Or.inl rfl) (cN af))
  (aj (cI PassesOwn.never rfl (ec (pv 1)) (d8 rfl (bE (bc (i := 3) iA.nd rfl (Or.inl rfl)) (bE (bc (i := 4) iA.nd rfl (Or.inl rfl)) d0))) (aj (az (i := 5) iA.nd rfl (Or.inl rfl) (aE (SH T) (hr.mono (by decide)) rfl T.IU T.nM.kp T.vo .nil aC (aa (pv 0) (aa (pv 4) af))))
    (av (cI PassesOwn.never rfl (ec (pv 1)) (d8 rfl (bE (bc (i := 6) iA.nd rfl (Or.inl rfl)) (bE (bc (i := 7) iA.nd rfl (Or.inl rfl)) d0))) (aj (az (i := 8) iA.nd rfl (Or.inl rfl) (aE (SM T) (hr.mono (by decide)) rfl T.IV T.nN.kp T.vq .nil aC (aa (pv 5) (aa (pv 7) af))))
      (av (aN (bp (cC (pv 8))) (av (gR (j7 PySem.F.plainAttrs_list PySem.F.slot_list_append PySem.F.type_list_append qc (pv 2) (aa (aY (aa (aY (aa (pv 3) (aa (ak ao (ak ao (pv 4) (ak ao (pv 8) ae (fun _ _ => rfl)) (fun _ _ => rfl)) ae (fun _ _ => rfl)) af))) (aa (aY (aa (pv 6) (aa (ak ao (ak ao (pv 7) (ak ao (pv 8) ae (fun _ _ => rfl)) (fun _ _ => rfl)) ae (fun _ _ => rfl)) af))) af))) af)))) aO)))))))
  (av (aG (pv 2))))), ?_⟩
  have yl := hA.len
  refine a7 (fun σ H1 => ∃ l, σ = [some (.ref a), some (.ref b), some (.ref l), none, none, none, none, none, none] /\ aw H H1 /\ H l = none /\ H1 l = some (.lst [])) (fun N hN => ?_) ?_
  ·walk_at "gzn"
   exact ⟨by decide, fun l hl => hN _ _ ⟨l, rfl, au hl, hl, aq⟩⟩
  rintro σ H1 ⟨l, rfl, s1, fl, hl⟩
  refine a7 (fun σ H2 => Kx H a b l ps ms ys.length σ H2) (fun N hN => ?_) ?_
  ·walk_at "gzn"
   refine ⟨⟨_, s1.seq hG⟩, g8 (xs := ys) (Kx H a b l ps ms) ⟨_, _, _, _, _, _, rfl, s1, fun _ => hl, fun z => absurd rfl z⟩ ?_ ?_ (fun σ H' h => hN _ _ h)⟩
   ·rintro i σ H2 _ ⟨_, _, _, _, _, _, _, s2, _⟩
    exact s2.seq hG
   ·rintro i x σ H2 hx ⟨_, _, _, _, _, _, rfl, s2, h2⟩
    obtain ⟨r, hr, gg, k, zs, rfl, h3, h4, h5⟩ := hA.get hx
    refine km (ai.of (s2 _ _ h3)) ?_
    walk_at "gzn"
    have rt : ∀ m ∈ r.2, m.1 <= ps.length := fun m bK => by
     rcases rP eA hr with ⟨_, rfl⟩ | ⟨_, e⟩
     ·exact ht m bK
     ·rw [e] at bK; cases bK
    have rl : r.2.length <= 1000 := by
     rcases rP eA hr with ⟨_, rfl⟩ | ⟨_, e⟩
     ·exact hm
     ·rw [e]; exact Nat.zero_le _
    refine ⟨a, k, xs, zs, ps, r.2, rfl, s2.seq hS, hP.same s2, ah.of (s2 _ _ h4), h5.imp fun _ _ x => x.same s2, ar, hn, rl, rt, fun tp us ts H3 s3 Ky y9 SX dW TT => ?_⟩
    have S3 := s2.trans s3
    walk_at "gzn"
    refine ⟨⟨_, S3.seq hG⟩, g8 (xs := ys) (SV H H3 a b l r.1 (.ref k) (.ref tp) ps ms i) ⟨_, _, _, rfl, S3, fun _ _ _ e => e, fun z => (h2.same s3).1 z.1, fun z => (h2.same s3).2 fun e => z ⟨e, rfl⟩⟩ ?_ ?_ ?_⟩
    ·rintro j σ H4 _ ⟨_, _, _, _, s4, _, _⟩
     exact s4.seq hG
    ·rintro j y σ H4 hy ⟨_, _, _, rfl, s4, b4, h6⟩
     obtain ⟨r', A4, gg', k', SY, rfl, g3, g4, g5⟩ := hA.get hy
     obtain ⟨ls, hls⟩ := h2.lst
     have S9 : tp ≠ l := fun z => by rw [z, hls] at Ky; cases Ky
     have Tc := b4 _ _ S9 y9
     have kT := SX.imp fun _ _ x => SS x (s3 _ _ hls) b4
     have Kz : ∀ m ∈ r'.2, m.1 <= ps.length := fun m bK => by
      rcases rP eA A4 with ⟨_, rfl⟩ | ⟨_, e⟩
      ·exact ht m bK
      ·rw [e] at bK; cases bK
     refine km (ai.of (s4 _ _ g3)) ?_
     walk_at "gzn"
     refine ⟨tp, k', us, SY, ts, r'.2, rfl, ah.of Tc, kT, ah.of (s4 _ _ g4), g5.imp fun _ _ x => x.same s4, fun m bK => by have := Kz m bK; omega, fun eN H5 s5 => ?_, fun jj m lo v kk e1 e2 e3 e4 p H5 s5 fp hp => ?_⟩
     ·walk_at "gzn"
      refine ⟨_, _, _, rfl, s4.trans s5, fun b o hb e => s5 _ _ (b4 b o hb e), fun z => absurd z.2 (Nat.succ_ne_zero _), fun _ => ?_⟩
      by_cases hz : i = 0 /\ j = 0
      ·obtain ⟨rfl, rfl⟩ := hz
       cases hr
       cases A4
       exact .inl ⟨s5 _ _ (h6.1 ⟨rfl, rfl⟩), P7 ar ht TT eN⟩
      ·exact (h6.2 hz).same s5
     ·obtain ⟨i', a', rfl, eS, hc⟩ := TT.clash (Kz m (List.mem_of_getElem? e1)) e3 e2 e4
      rcases rP eA hr with ⟨rfl, rfl⟩ | ⟨_, e⟩
      ·rcases rP eA A4 with ⟨rfl, rfl⟩ | ⟨_, e⟩
       ·have rO := s5 _ _ (h6.1 ⟨rfl, rfl⟩)
        have S5 := s4.trans s5
        obtain ⟨v1, Td, t1, w1, rfl, m1, _⟩ := (h5.imp fun _ _ x => dm.same x S5).at eS
        obtain ⟨v2, Te, t2, w2, rfl, m2, _⟩ := (g5.imp fun _ _ x => dm.same x S5).at e1
        walk_at "gzn"
        refine ⟨.inl ⟨rfl, _, ah.of rO⟩, aF (ai.of hp) (v := .int i') rfl (aL (ah.of (S5 _ _ h4)) (df Td) (aF (ai.of m1) (v := .int a'.1) rfl ⟨bo, fun p1 A5 => ?_⟩))⟩
        have u1 := au (o := .tup [.non, .int a'.1]) A5
        refine aF (ai.of (u1 _ _ hp)) (v := .int jj) rfl (aL (ah.of (u1 _ _ (S5 _ _ g4))) (df Te) (aF (ai.of (u1 _ _ m2)) (v := .int m.1) rfl ⟨bo, fun p2 kY => ⟨bo, fun p3 kS => ?_⟩⟩))
        have u2 := au (o := .tup [.non, .int m.1]) kY
        have u3 := au (o := .tup [.ref p1, .ref p2]) kS
        have U := u1.trans (u2.trans u3)
        have KA := U _ _ rO
        have nl : ∀ (x : Addr) (vs : List V), upd (upd (upd H5 p1 (.tup [.non, .int a'.1])) p2 (.tup [.non, .int m.1])) p3 (.tup [.ref p1, .ref p2]) x = some (.tup vs) -> x ≠ l := fun x vs e z => by rw [z, KA] at e; cases e
        have a3 : upd (upd (upd H5 p1 (.tup [.non, .int a'.1])) p2 (.tup [.non, .int m.1])) p3 (.tup [.ref p1, .ref p2]) p3 = some (.tup [.ref p1, .ref p2]) := aq
        have a2 := u3 _ _ (aq (H := upd H5 p1 (.tup [.non, .int a'.1])) (a := p2) (o := .tup [.non, .int m.1]))
        have a1 := u3 _ _ (u2 _ _ (aq (H := H5) (a := p1) (o := .tup [.non, .int a'.1])))
        refine ⟨[], KA, by decide, _, _, _, rfl, g9 fl (S5.trans U), fun b o hb e => by rw [aH hb]; exact U _ _ (s5 _ _ (b4 b o hb e)), fun z => absurd z.2 (by decide), fun _ => .inr ⟨_, a', m, aq, List.mem_of_getElem? eS, List.mem_of_getElem? e1, hc, p3, p1, p2, rfl, ?_, ?_, ?_⟩⟩
        ·rw [aH (nl _ _ a3)]; exact a3
        ·rw [aH (nl _ _ a1)]; exact a1
        ·rw [aH (nl _ _ a2)]; exact a2
       ·rw [e] at e1; simp at e1
      ·rw [e] at eS; simp at eS
    ·rintro σ H4 ⟨_, _, _, rfl, s4, _, h6⟩
     exact ⟨_, _, _, _, _, _, rfl, s4, fun z => absurd z (Nat.succ_ne_zero _), fun _ => h6.2 fun z => by
      have : 0 < ys.length := by rw [yl]; exact Nat.zero_lt_succ _
      omega⟩
  rintro σ H2 ⟨_, _, _, _, _, _, rfl, s2, h2⟩
  walk_at "gzn"
  exact q l H2 s2 fl (h2.2 fun z => by
   have : 0 < ys.length := by rw [yl]; exact Nat.zero_lt_succ _
   omega)
end
section
seal L2.PE L2.PS L2.bg L2.PA
variable {P : Program} {w : World} {K : PySem.W.Frag} {mg : Str -> Option Value} {base : Heap}
noncomputable def Tf (K : PySem.W.Frag) : Sp := fun vs H Q _ => ∃ (v : V) (i j : Nat), vs = [v] /\ oK H v i j /\ ∀ l H', aw H H' -> H l = none -> H' l = some (.lst []) -> Q (.ref l) H'
theorem Tg (T : Tx K mg) : aJ P w K mg base (aK P w) 1 T.i4 T.vL ["pair"] (Tf K) := by
 refine okN T.nW Rz (fun vs H Q E h => ?_) (fun aI A outer s H vs Q E hr h => ?_)
 ·obtain ⟨v, i, j, rfl, _⟩ := h
  rfl
 ·obtain ⟨v, i, j, rfl, ⟨t, a, b, rfl, h1, h2, h3⟩, q⟩ := h
  refine ⟨_, (av (aG (a6 (Ra rfl) (by rfl) T.AJ GJ (aa (Gg (Q9 rfl) (by rfl) T.JA Q8 (aa (eU (cP.mk (fr := []) (ys := []) rfl (by decide +kernel) rfl (by decide +kernel) rfl rfl .nil .nil (by decide) rfl) rfl (yF (pv 0)) (fun C s2 H2 ex pn => ⟨(ke (bp (cC (ak (fv (K := K) rfl) (pv 0) ae (fun _ _ => rfl))))), (ak (fv (K := K) rfl) (pv 0) ae (fun _ _ => rfl))⟩)) af)) af)))), ?_⟩
  walk_at "gzn"
  refine ⟨⟨_, ai.of h1⟩, eV (xs := [.ref a, .ref b]) Hd bo (And.intro (ai.of h1) ?_)⟩
  walk_at "gzn"
  refine aF (ai.of h2) (v := .non) rfl ?_
  walk_at "gzn"
  refine And.intro (ai.of h1) ?_
  walk_at "gzn"
  refine aF (ai.of h3) (v := .non) rfl ?_
  walk_at "gzn"
  refine And.intro (ai.of h1) fun l hl => ?_
  refine ⟨ah.of aq, fun d hd => ⟨aq, fun r hr => ?_⟩⟩
  have u1 := au (o := .lst []) hl
  have u2 := au (o := .set (fun _ => false) 0) hd
  have u3 := au (o := .lst []) hr
  exact q r _ (u1.trans (u2.trans u3)) ((u1.trans u2).free hr) aq
noncomputable def Th (K : PySem.W.Frag) : Sp := fun vs H Q _ => ∃ (l : Addr) (m : Int), vs = [.ref l, .int m] /\ 0 <= m /\ ((H l = some (.lst []) /\ ∀ r H', aw H H' -> H r = none -> H' r = some (.lst []) -> Q (.ref r) H') ∨ ∃ v i j, H l = some (.lst [v]) /\ oK H v i j /\ ∀ H', aw H H' -> Q .non H')
noncomputable def Ti (H : Hp) (l : Addr) (m : Int) (_ : Nat) (σ : St) (H1 : Hp) : Prop := ∃ (e1 e2 : Option V), σ = [some (.ref l), some (.int m), e1, e2] /\ aw H H1
theorem Tj (T : Tx K mg) : aJ P w K mg base (aK P w) 2 T.i5 T.vN ["pairs", "most"] (Th K) := by
 refine okN T.nX IL (fun vs H Q E h => ?_) (fun aI A outer s H vs Q E hr h => ?_)
 ·obtain ⟨l, m, rfl, _⟩ := h
  rfl
 ·obtain ⟨l, m, rfl, hm, hq⟩ := h
  refine ⟨_, (aj (aN (aX bJ (a6 cD (by rfl) T.cz cE (aa (pv 0) af)) ae (aR _)) (av (aG (cN af))) aO)
  (aj (aN (aX bJ (pv 1) ae (aR _)) (av (aG bA)) aO)
  (aj (cI PassesOwn.never rfl (ec (aE (Tg T) (hr.mono (by decide)) rfl T.Jc T.nW.kp T.vM .nil aC (aa (ak ao (pv 0) ae (fun _ _ => rfl)) af))) (bc (i := 2) IL.nd rfl (Or.inl rfl)) so)
  (av (aG bA))))), ?_⟩
  rcases hq with ⟨hl, q⟩ | ⟨v, i, j, hl, hv, q⟩
  ·walk_at "gzn"
   refine ⟨_, dg (ah.of hl), ?_⟩
   walk_at "gzn"
   exact ⟨by decide, fun r hr => q r _ (au hr) hr aq⟩
  ·walk_at "gzn"
   refine ⟨_, dg (ah.of hl), ?_⟩
   walk_at "gzn"
   rw [if_neg (by decide)]
   refine bz (fun _ => q _ (aw.refl _)) fun _ => ?_
   refine aL (ah.of hl) (v := v) rfl ⟨v, i, j, rfl, hv, fun r H1 s1 _ hr => ⟨r, rfl, ⟨_, ah.of hr⟩, g8 (xs := []) (Ti H1 l m) ⟨_, _, rfl, aw.refl _⟩ ?_ ?_ ?_⟩⟩
   ·rintro i σ H2 _ ⟨_, _, _, s2⟩
    exact ah.of (s2 _ _ hr)
   ·rintro i x σ H2 hx _
    cases hx
   ·rintro σ H2 ⟨_, _, rfl, s2⟩
    walk_at "gzn"
    exact q _ (s1.trans s2)
noncomputable def Tn (K : PySem.W.Frag) : Sp := fun vs H Q _ => ∃ (l : V) (m : Int), vs = [l, .non, .int m] /\ Q .non H
theorem KC (T : Tx K mg) : aJ P w K mg base (aK P w) 2 T.i6 T.vP ["pairs", "eye", "most"] (Tn K) := by
 refine okN T.kI RA (fun vs H Q E h => ?_) (fun aI A outer s H vs Q E hr h => ?_)
 ·obtain ⟨l, m, rfl, _⟩ := h
  rfl
 ·obtain ⟨l, m, rfl, q⟩ := h
  refine ⟨_, (av (aG (k9 (bp (bZ (pv 1))) bA zN))), ?_⟩
  walk_at "gzn"
  exact q
noncomputable def To (K : PySem.W.Frag) : Sp := fun vs H Q _ => ∃ (l t a b : Addr) (m : Int) (i j : Nat), vs = [.ref l, .int m] /\ 0 <= m /\ H l = some (.lst [.ref t]) /\ H t = some (.tup [.ref a, .ref b]) /\ H a = some (.tup [.non, .int (i : Int)]) /\ H b = some (.tup [.non, .int (j : Int)]) /\ ∀ r H', aw H H' -> H r = none -> H' r = some (.tup [.str "clash", .ref a, .ref b, .non, .non]) -> Q (.ref r) H'
theorem Tp (T : Tx K mg) : aJ P w K mg base (aK P w) 3 T.i7 T.vQ ["pairs", "most"] (To K) := by
 refine okN T.nY q9 (fun vs H Q E h => ?_) (fun aI A outer s H vs Q E hr h => ?_)
 ·obtain ⟨l, t, a, b, m, i, j, rfl, _⟩ := h
  rfl
 ·obtain ⟨l, t, a, b, m, i, j, rfl, hm, hl, ht, ha, hb, q⟩ := h
  refine ⟨_, (aj (aN (aX fP (pv 1) ae (aR _)) (av (aG (aY (aa bq af)))) aO)
  (aj (az (i := 2) q9.nd rfl (Or.inl rfl) (ak ao (ak ao (pv 0) ae (fun _ _ => rfl)) ae (fun _ _ => rfl)))
  (aj (az (i := 3) q9.nd rfl (Or.inl rfl) (ak ao (ak ao (pv 0) ae (fun _ _ => rfl)) ae (fun _ _ => rfl)))
  (aj (az (i := 4) q9.nd rfl (Or.inl rfl) (aE (KC T) (hr.mono (by decide)) rfl T.AD T.kI.kp T.rA .nil aC (aa (pv 0) (aa (ak ao (pv 2) ae (fun _ _ => rfl)) (aa (pv 1) af)))))
  (aj (az (i := 5) q9.nd rfl (Or.inl rfl) (k9 (aX bJ (ak ao (pv 2) ae (fun _ _ => rfl)) (ak ao (pv 3) ae (fun _ _ => rfl)) (aR _)) bA (aE (KC T) (hr.mono (by decide)) rfl T.AD T.kI.kp T.rA .nil aC (aa (pv 0) (aa (ak ao (pv 3) ae (fun _ _ => rfl)) (aa (pv 1) af))))))
  (av (aG (aY (aa bq (aa (pv 2) (aa (pv 3) (aa (pv 4) (aa (pv 5) af))))))))))))), ?_⟩
  walk_at "gzn"
  rw [if_neg (by omega)]
  refine aL (ah.of hl) (v := .ref t) rfl (aF (ai.of ht) (v := .ref a) rfl ?_)
  refine aL (ah.of hl) (v := .ref t) rfl (aF (ai.of ht) (v := .ref b) rfl (aF (ai.of ha) (v := .non) rfl ⟨_, _, rfl, ?_⟩))
  refine aF (ai.of ha) (v := .non) rfl (aF (ai.of hb) (v := .non) rfl ⟨rfl, ?_⟩)
  rw [if_pos rfl]
  exact ⟨by decide, fun r hr => q r _ (au hr) hr aq⟩
end
section
seal L2.PE L2.PS L2.bg L2.PA
variable {P : Program} {w : World} {K : PySem.W.Frag} {mg : Str -> Option Value} {base : Heap}
noncomputable def rQ (H : Hp) (v : V) (sw gw : List W2) : Prop := ∃ (r k : Addr) (w : Str), v = .ref r /\ H r = some (.tup [.str w, .ref k]) /\
 ((w = "never" /\ ∃ j : Nat, H k = some (.tup [.str "step", .int (j : Int)]) /\ sw[j]? = some none) ∨
 (w = "never" /\ ∃ j : Nat, H k = some (.tup [.str "at", .int (j : Int)]) /\ gw[j]? = some none) ∨
 (w = "never" /\ ∃ (a b : Addr) (m n : Mk) (pp : List P2) (gs : List S2), H k = some (.tup [.str "clash", .ref a, .ref b, .non, .non]) /\ H a = some (.tup [.non, .int (m.1 : Int)]) /\ H b = some (.tup [.non, .int (n.1 : Int)]) /\ sw = pp.map fF /\ gw = gs.map some /\ gs[m.1]? = some m.2 /\ gs[n.1]? = some n.2 /\ clash pp m n) ∨
 (w = "may" /\ ∃ (cs : List Int) (pp : List P2) (gs : List S2), H k = some (.lst (cs.map V.int)) /\ cs.length = gw.length /\ sw = pp.map fF /\ gw = gs.map some /\ iu pp (aZ cs) /\ ∀ t s, gs[t]? = some s -> bw s (aZ cs t)))
noncomputable def fG (gs : List S2) : List Mk := (List.range gs.length).map fun i => (i, gs.getD i (none, none))
theorem KG {gs : List S2} {i : Nat} {m : Mk} (h : (fG gs)[i]? = some m) : m.1 = i /\ gs[i]? = some m.2 := by
 unfold fG at h
 rw [List.getElem?_map] at h
 obtain ⟨k, hk, rfl⟩ := Option.map_eq_some_iff.mp h
 have hi : i < gs.length := by
  have := (List.getElem?_eq_some_iff.mp hk).1
  rwa [List.length_range] at this
 rw [List.getElem?_range hi] at hk
 cases hk
 exact ⟨rfl, by show gs[i]? = some (gs.getD i _); rw [List.getD_eq_getElem?_getD, List.getElem?_eq_getElem hi]; rfl⟩
theorem A6 {gs : List S2} {m : Mk} (h : m ∈ fG gs) : m.1 < gs.length /\ gs[m.1]? = some m.2 := by
 obtain ⟨i, hi⟩ := List.mem_iff_getElem?.mp h
 obtain ⟨e1, e2⟩ := KG hi
 rw [<- e1] at e2
 exact ⟨(List.getElem?_eq_some_iff.mp e2).1, e2⟩
theorem xi (gs : List S2) : (fG gs).length = gs.length := by unfold fG; rw [List.length_map, List.length_range]
theorem ay.KH {α : Type} {R : V -> α -> Prop} : ∀ {xs : List V} {as : List α}, xs.length = as.length -> (∀ (i : Nat) x a, xs[i]? = some x -> as[i]? = some a -> R x a) -> ay R xs as
 | [], [], _, _ => trivial
 | _ :: _, _ :: _, h, k => ⟨k 0 _ _ rfl rfl, ay.KH (by simpa using h) fun i x a h1 h2 => k (i + 1) x a h1 h2⟩
 | [], _ :: _, h, _ => by cases h
 | _ :: _, [], h, _ => by cases h
theorem getD_none {ws : List W2} {j : Nat} (h : j < ws.length) (e : Option.isNone (ws.getD j none) = true) : ws[j]? = some none := by
 rw [List.getD_eq_getElem?_getD, List.getElem?_eq_getElem h] at e
 rw [List.getElem?_eq_getElem h]
 cases hw : ws[j] with
 | none => rfl
 | some s => rw [hw] at e; cases e
noncomputable def Tq (K : PySem.W.Frag) (B C : Addr) : Sp := fun vs H Q E => ∃ (x p b : Addr) (e t u d m : Int) (xs : List V) (ps : List Pa), vs = [.ref x, .ref b] /\ dU B H x e t u d m p [] /\ 1 <= t /\ t <= 12 /\ 0 <= e /\ e <= 7 /\ 0 <= m /\ ah K H b xs /\ bX H xs ps /\ ps.length <= 900 /\ (¬ di t ps -> E (.ref C) none H) /\ (di t ps -> ∀ v H', aw H H' -> rQ H' v (c9 u d ps (t - 1).toNat) (da ps t.toNat) -> Q v H')
theorem KI (T : Tx K mg) : aJ P w K mg base (aK P w) 6 T.i8 T.vS ["board", "claim"] (Tq K T.bf T.aU) := by
 refine dJ T.kJ nA (fun vs H Q E h => ?_) (fun aI A outer s H vs Q E hr h => ?_)
 ·obtain ⟨x, p, b, e, t, u, d, m, xs, ps, rfl, _⟩ := h
  rfl
 ·obtain ⟨x, p, b, e, t, u, d, m, xs, ps, rfl, hb, t1, t2, e0, e7, m0, hX, hP, hn, q0, q⟩ := h
  refine ⟨_, (aj (az (i := 2) nA.nd rfl (Or.inl rfl) (aE (R8 T) (hr.mono (by decide)) rfl T.IX T.nP.kp T.vz .nil tJ (aa (pv 0) (aa (pv 1) af))))
  (aj (az (i := 3) nA.nd rfl (Or.inl rfl) (aE (Sa T) (hr.mono (by decide)) rfl T.IY T.nQ.kp T.vB .nil tJ (aa (pv 0) (aa (pv 1) af))))
  (aj (aN (aX (Aa (lJ hr)) bA (pv 2) (by with_unfolding_all rfl)) (av (aG (aY (aa bq (aa (aY (aa bq (aa (j7 PySem.F.plainAttrs_list PySem.F.slot_list_index PySem.F.type_list_index (Il (lJ hr)) (pv 2) (aa bA af)) af))) af))))) aO)
  (aj (aN (aX (Aa (lJ hr)) bA (pv 3) (by with_unfolding_all rfl)) (av (aG (aY (aa bq (aa (aY (aa bq (aa (j7 PySem.F.plainAttrs_list PySem.F.slot_list_index PySem.F.type_list_index (Il (lJ hr)) (pv 3) (aa bA af)) af))) af))))) aO)
  (aj (az (i := 4) nA.nd rfl (Or.inl rfl) (QS rfl (by rfl) T.wX (by rfl) T.rL (aa (pv 3) af)))
  (aj (az (i := 5) nA.nd rfl (Or.inl rfl) (aE (SW T) (hr.mono (by decide)) rfl T.Jb T.nV.kp T.vJ .nil aC (aa (pv 2) (aa (aA lI (cN (aa (aY (aa bA (aa (pv 4) af))) af)) (aE (SR T) (hr.mono (by decide)) rfl T.Ja T.nU.kp T.vH .nil aC (aa (pv 0) af))) af))))
  (aj (az (i := 6) nA.nd rfl (Or.inl rfl) (aE (Tj T) (hr.mono (by decide)) rfl T.Jd T.nX.kp T.vO .nil aC (aa (pv 5) (aa (gv (pv 0) rfl) af))))
  (aj (aN (bp (bZ (pv 6))) (av (aG (aY (aa bq (aa (aE (Tp T) (hr.mono (by decide)) rfl T.Je T.nY.kp T.vR .nil aC (aa (pv 5) (aa (gv (pv 0) rfl) af))) af))))) aO)
  (av (aG (aY (aa bq (aa (aE (Sw T) (hr.mono (by decide)) rfl T.IT T.nJ.kp T.vf .nil aC (aa (pv 2) (aa (aA lI (pv 4) (aE (SO T) (hr.mono (by decide)) rfl T.I0 T.nT.kp T.vF .nil aC (aa (pv 0) (aa (pv 6) af)))) af))) af))))))))))))), ?_⟩
  rcases Classical.em (¬ di t ps) with hk | hk
  ·walk_at "gzn"
   exact ⟨x, p, b, e, t, u, d, m, [], xs, ps, rfl, hb, t1, t2, hX, hP, hn, q0, fun z => absurd z hk⟩
  replace hk := Classical.not_not.mp hk
  have Q1 := q hk
  refine a7 (fun σ H1 => ∃ s ys, σ = [some (.ref x), some (.ref b), some (.ref s), none, none, none, none] /\ aw H H1 /\ H1 s = some (.lst ys) /\ ay (bN H1) ys (c9 u d ps (t - 1).toNat)) (fun N hN => ?_) ?_
  ·walk_at "gzn"
   exact ⟨x, p, b, e, t, u, d, m, [], xs, ps, rfl, hb, t1, t2, hX, hP, hn, fun z => absurd hk z, fun _ l ys H1 s1 _ hl hW => hN _ _ ⟨l, ys, rfl, s1, hl, hW⟩⟩
  rintro σ H1 ⟨s, ys, rfl, s1, hs, hW⟩
  refine a7 (fun σ H2 => ∃ gl zs, σ = [some (.ref x), some (.ref b), some (.ref s), some (.ref gl), none, none, none] /\ aw H1 H2 /\ H2 gl = some (.lst zs) /\ ay (bN H2) zs (da ps t.toNat)) (fun N hN => ?_) ?_
  ·walk_at "gzn"
   exact ⟨x, p, b, e, t, u, d, m, [], xs, ps, rfl, hb.same s1, t1, t2, s1.seq hX, hP.same s1, hn, fun z => absurd hk z, fun _ l ys H2 s2 _ hl hW => hN _ _ ⟨l, ys, rfl, s2, hl, hW⟩⟩
  rintro σ H2 ⟨gl, zs, rfl, s2, jQ, hG⟩
  have oN := s1.trans s2
  have cH := s2 _ _ hs
  have A7 := hW.imp fun _ _ r => r.same s2
  have wl : (c9 u d ps (t - 1).toNat).length = (t - 1).toNat := by unfold c9; rw [List.length_map, List.length_range]
  have gw : (da ps t.toNat).length = t.toNat := by unfold da; rw [List.length_map, List.length_range]
  have yl := hW.len
  have zl := hG.len
  obtain ⟨n1, n2, n3⟩ := uM A7
  obtain ⟨k1, k2, k3⟩ := uM hG
  refine a7 (fun σ H3 => σ = [some (.ref x), some (.ref b), some (.ref s), some (.ref gl), none, none, none] /\ H3 = H2 /\ (c9 u d ps (t - 1).toNat).any Option.isNone = false) (fun N hN => ?_) ?_
  ·walk_at "gzn"
   refine ⟨s, ys, rfl, rfl, ah.of cH, n1, ?_⟩
   rw [n2]
   cases hA : (c9 u d ps (t - 1).toNat).any Option.isNone with
   | false =>
    walk_at "gzn"
    exact hN _ _ ⟨rfl, rfl, hA⟩
   | true =>
    walk_at "gzn"
    obtain ⟨j, j1, j2, j3⟩ := Aj (d := V.non) (n2.trans hA)
    refine ⟨.inl ⟨rfl, _, ah.of cH⟩, s, ys, j, rfl, rfl, ah.of cH, n1, j1, by omega, j2, j3, bo, fun k A8 => ⟨bo, fun r hr => ?_⟩⟩
    have u1 := au (o := .tup [.str "step", .int (j : Int)]) A8
    have u2 := au (o := .tup [.str "never", .ref k]) hr
    rw [n3] at j2
    exact Q1 _ _ (oN.trans (u1.trans u2)) ⟨r, k, "never", rfl, aq, .inl ⟨rfl, j, u2 _ _ aq, getD_none (by omega) j2⟩⟩
  rintro σ H3 ⟨rfl, rfl, hA⟩
  refine a7 (fun σ H4 => σ = [some (.ref x), some (.ref b), some (.ref s), some (.ref gl), none, none, none] /\ H4 = H3 /\ (da ps t.toNat).any Option.isNone = false) (fun N hN => ?_) ?_
  ·walk_at "gzn"
   refine ⟨gl, zs, rfl, rfl, ah.of jQ, k1, ?_⟩
   rw [k2]
   cases hB : (da ps t.toNat).any Option.isNone with
   | false =>
    walk_at "gzn"
    exact hN _ _ ⟨rfl, rfl, hB⟩
   | true =>
    walk_at "gzn"
    obtain ⟨j, j1, j2, j3⟩ := Aj (d := V.non) (k2.trans hB)
    refine ⟨.inl ⟨rfl, _, ah.of jQ⟩, gl, zs, j, rfl, rfl, ah.of jQ, k1, j1, by omega, j2, j3, bo, fun k A8 => ⟨bo, fun r hr => ?_⟩⟩
    have u1 := au (o := .tup [.str "at", .int (j : Int)]) A8
    have u2 := au (o := .tup [.str "never", .ref k]) hr
    rw [k3] at j2
    exact Q1 _ _ (oN.trans (u1.trans u2)) ⟨r, k, "never", rfl, aq, .inr (.inl ⟨rfl, j, u2 _ _ aq, getD_none (by omega) j2⟩)⟩
  rintro σ H4 ⟨rfl, rfl, hB⟩
  obtain ⟨pp, ep, ar⟩ := IH (f := fun (k : Nat) => cF (none, none) ((some (-d), some u) :: sel ps "step" (k : Int))) (fun k s h => Rm h) (List.range (t - 1).toNat) fun k hk e => II hA _ (List.mem_map.mpr ⟨k, hk, rfl⟩) e
  replace ep : c9 u d ps (t - 1).toNat = pp.map fF := ep
  obtain ⟨gs, eg⟩ := all_some _ (II hB)
  have ppl : pp.length = (t - 1).toNat := by rw [<- wl, ep, List.length_map]
  have gsl : gs.length = t.toNat := by rw [<- gw, eg, List.length_map]
  rw [ep] at A7
  have KJ := Ak A7
  have A9 := hG
  rw [eg] at A9
  have M1 : ∀ mm ∈ fG gs, mm.1 <= pp.length := fun mm hm => by have := (A6 hm).1; omega
  refine a7 (fun σ H5 => ∃ k vs, σ = [some (.ref x), some (.ref b), some (.ref s), some (.ref gl), some (.ref k), none, none] /\ aw H4 H5 /\ H5 k = some (.lst vs) /\ ay (dm H5) vs (fG gs)) (fun N hN => ?_) ?_
  ·walk_at "gzn"
   refine ⟨zs, ah.of jQ, fun l vs H5 s5 _ hl Tr hv => hN _ _ ⟨l, vs, rfl, s5, hl, ay.KH (by rw [Tr, xi, A9.len, List.length_map]) fun i y mk e1 e2 => ?_⟩⟩
   obtain ⟨f1, f2⟩ := KG e2
   obtain ⟨z, hz, rz⟩ := A9.at (i := i) (by rw [List.getElem?_map, f2]; rfl)
   obtain ⟨p0, rfl, _, h5⟩ := hv i y z e1 hz
   obtain ⟨pz, rfl, hpz⟩ := rz
   exact ⟨p0, pz, rfl, by rw [h5, f1], s5 _ _ hpz⟩
  rintro σ H5 ⟨k, vs, rfl, s5, hkl, hM⟩
  have vl := hM.len
  rw [xi] at vl
  have S5 := oN.trans s5
  have vn : vs.length <= 12 := by omega
  refine a7 (fun σ H6 => ∃ c, σ = [some (.ref x), some (.ref b), some (.ref s), some (.ref gl), some (.ref k), some (.ref c), none] /\ aw H5 H6 /\ oM pp (fG gs) H6 c) (fun N hN => ?_) ?_
  ·walk_at "gzn"
   refine ⟨bo, fun t0 xj => ⟨by decide, fun l0 b0 => ?_⟩⟩
   have u1 := au (o := .tup [.non, .ref k]) xj
   have u2 := au (o := .lst [.ref t0]) b0
   have U := u1.trans u2
   refine ⟨x, p, e, t, u, d, m, rfl, hb.same (S5.trans U), e0, e7, fun l ws H6 s6 _ hl KL => ?_⟩
   have Ts := KL.len
   rw [List.length_map, List.length_range] at Ts
   refine ⟨l, rfl, [.ref t0], s6 _ _ aq, ws, hl, Nat.le_trans (by show 1 + ws.length <= 30; omega) (by decide), fun c hc => ?_⟩
   have u3 := au (o := .lst ([.ref t0] ++ ws)) hc
   have S6 := s5.trans (U.trans (s6.trans u3))
   refine ⟨s, c, ys, .ref t0 :: ws, pp, fG gs, _, rfl, ah.of (S6 _ _ cH), KJ.same S6, ar, by omega, ah.of aq, ⟨⟨t0, k, vs, rfl, (u2.trans (s6.trans u3)) _ _ aq, (U.trans (s6.trans u3)) _ _ hkl, hM.imp fun _ _ r => r.same (U.trans (s6.trans u3))⟩, KL.imp fun _ _ r => r.same u3⟩, fun r hr => ?_, by rw [xi]; omega, M1, fun l7 H7 s7 _ hR => hN _ _ ⟨l7, rfl, U.trans (s6.trans (u3.trans s7)), hR⟩⟩
   obtain ⟨i, _, rfl⟩ := List.mem_map.mp hr
   rfl
  rintro σ H6 ⟨c, rfl, s6, hR⟩
  have S6 := S5.trans s6
  rcases hR with ⟨hc, hcrs⟩ | ⟨v, mm, nn, hc, bK, hnn, cu, t0, ta, tb, rfl, xj, hta, htb⟩
  ·refine a7 (fun σ H7 => ∃ f, σ = [some (.ref x), some (.ref b), some (.ref s), some (.ref gl), some (.ref k), some (.ref c), some (.ref f)] /\ aw H6 H7) (fun N hN => ?_) ?_
   ·walk_at "gzn"
    obtain ⟨⟨dx, hx⟩, hp⟩ := id hb
    refine ⟨_, _, _, S6 _ _ hx, T.b9, T.gN, _, rfl, ?_⟩
    exact ⟨c, m, rfl, m0, .inl ⟨hc, fun r H7 s7 _ hr => hN _ _ ⟨r, rfl, s7⟩⟩⟩
   rintro σ H7 ⟨f, rfl, s7⟩
   have S7 := S6.trans s7
   walk_at "gzn"
   refine ⟨x, p, _, e, t, u, d, m, rfl, hb.same S7, fun r H8 s8 _ hr => ⟨r, rfl, vs, (s6.trans (s7.trans s8)) _ _ hkl, [], hr, Nat.le_trans (by show vs.length + 0 <= 30; omega) (by decide), fun k2 ky => ?_⟩⟩
   rw [List.append_nil]
   have u1 := au (o := .lst vs) ky
   have W := s5.trans (s6.trans (s7.trans (s8.trans u1)))
   have X8 := S7.trans (s8.trans u1)
   refine ⟨s, k2, ys, vs, pp, fG gs, rfl, ah.of (W _ _ cH), KJ.same W, ah.of aq, hM.imp fun _ _ r => r.same (s6.trans (s7.trans (s8.trans u1))), ar, by omega, by rw [xi]; omega, M1, fun eN => absurd hcrs eN, fun l9 cs H9 s9 _ Ba cu rR rS => ⟨bo, fun z hz => ?_⟩⟩
   have u9 := au (o := .tup [.str "may", .ref l9]) hz
   refine Q1 _ _ (X8.trans (s9.trans u9)) ⟨z, l9, "may", rfl, aq, .inr (.inr (.inr ⟨rfl, cs, pp, gs, u9 _ _ Ba, by omega, ep, eg, rR, fun tt ss hh => ?_⟩))⟩
   refine rS (tt, ss) (List.mem_iff_getElem?.mpr ⟨tt, ?_⟩)
   have Tt := (List.getElem?_eq_some_iff.mp hh).1
   unfold fG
   rw [List.getElem?_map, List.getElem?_range Tt]
   show some (tt, gs.getD tt _) = _
   rw [List.getD_eq_getElem?_getD, hh]
   rfl
  ·refine a7 (fun σ H7 => σ = [some (.ref x), some (.ref b), some (.ref s), some (.ref gl), some (.ref k), some (.ref c), some .non] /\ aw H6 H7) (fun N hN => ?_) ?_
   ·walk_at "gzn"
    obtain ⟨⟨dx, hx⟩, hp⟩ := id hb
    refine ⟨_, _, _, S6 _ _ hx, T.b9, T.gN, _, rfl, ?_⟩
    exact ⟨c, m, rfl, m0, .inr ⟨_, _, _, hc, ⟨t0, ta, tb, rfl, xj, hta, htb⟩, fun H7 s7 => hN _ _ ⟨rfl, s7⟩⟩⟩
   rintro σ H7 ⟨rfl, s7⟩
   have S7 := S6.trans s7
   walk_at "gzn"
   obtain ⟨⟨dx, hx⟩, hp⟩ := id hb
   refine ⟨_, _, _, S7 _ _ hx, T.b9, T.gN, _, rfl, ?_⟩
   refine ⟨c, t0, ta, tb, m, mm.1, nn.1, rfl, m0, s7 _ _ hc, s7 _ _ xj, s7 _ _ hta, s7 _ _ htb, fun r H8 s8 _ hr => ⟨bo, fun z hz => ?_⟩⟩
   have u1 := au (o := .tup [.str "never", .ref r]) hz
   have W := s7.trans (s8.trans u1)
   exact Q1 _ _ (S7.trans (s8.trans u1)) ⟨z, r, "never", rfl, aq, .inr (.inr (.inl ⟨rfl, ta, tb, mm, nn, pp, gs, u1 _ _ hr, W _ _ hta, W _ _ htb, ep, eg, (A6 bK).2, (A6 hnn).2, cu⟩))⟩
end
section
seal L2.PE L2.PS L2.bg L2.PA
variable {P : Program} {w : World} {K : PySem.W.Frag} {mg : Str -> Option Value} {base : Heap}
noncomputable def Tu (K : PySem.W.Frag) (B : Addr) : Sp := fun vs H Q _ => ∃ (x p b : Addr) (e t u d m : Int) (xs : List V) (ps : List Pa), vs = [.ref x, .ref b] /\ dU B H x e t u d m p [] /\ 1 <= t /\ t <= 12 /\ 0 <= e /\ e <= 7 /\ 0 <= m /\ ah K H b xs /\ bX H xs ps /\ ps.length <= 900 /\ ¬ di t ps /\ ∀ H', aw H H' -> Q (.bl true) H'
theorem Tv (T : Tx K mg) : aJ P w K mg base (aK P w) 7 T.jC T.wV ["_law_board", "_law_claim"] (Tu K T.bf) := by
 refine okN T.oF kz (fun vs H Q E h => ?_) (fun aI A outer s H vs Q E hr h => ?_)
 ·obtain ⟨x, p, b, e, t, u, d, m, xs, ps, rfl, _⟩ := h
  rfl
 ·obtain ⟨x, p, b, e, t, u, d, m, xs, ps, rfl, hb, t1, t2, e0, e7, m0, hX, hP, hn, hk, q⟩ := h
  refine ⟨_, (aj (az (i := 2) kz.nd rfl (Or.inl rfl) (aY af))
  (aj (Ob (fun cls _ H1 => cls = .ref T.aU /\ aw H H1) 3 rfl rfl rfl T.JC kz.nd rfl rfl (fun F pn hx => (av (gR (aE (KI T) (hr.mono (by decide)) rfl T.AE T.kJ.kp T.rB .nil hx (aa (pv 0) (aa (pv 1) af)))))) (fun A' pn => (aj (az (i := 2) kz.nd rfl (Or.inl rfl) (aY (aa (a6 (dB (K := K) rfl) (by rfl) T.ck cq (aa (pv 3) (aa (dt (v := .ref T.aU) rfl T.AK rfl) af))) (aa (a6 (dB (K := K) rfl) (by rfl) T.ck cq (aa (pv 3) (aa (jV (v := .ty "ValueError") rfl T.Jw NS rfl) af))) (aa (a6 (dB (K := K) rfl) (by rfl) T.ck cq (aa (pv 3) (aa (dt (v := .ref T.dH) rfl T.JI rfl) af))) (aa (a6 (dB (K := K) rfl) (by rfl) T.ck cq (aa (pv 3) (aa (dt (v := .ref T.jN) rfl T.JO rfl) af))) af))))))
    (aj (az (i := 2) kz.nd rfl (Or.inl rfl) (aA (zS (K := K) rfl) (pv 2) (aY (aa (a6 (dB (K := K) rfl) (by rfl) T.ck cq (aa (pv 3) (aa (dt (v := .ref T.jE) rfl T.JE rfl) af))) (aa (a6 (dB (K := K) rfl) (by rfl) T.ck cq (aa (pv 3) (aa (dt (v := .ref T.cZ) rfl T.rM rfl) af))) (aa (a6 (dB (K := K) rfl) (by rfl) T.ck cq (aa (pv 3) (aa (dt (v := .ref T.jI) rfl T.JJ rfl) af))) (aa (a6 (dB (K := K) rfl) (by rfl) T.ck cq (aa (pv 3) (aa (dt (v := .ref T.jM) rfl T.JN rfl) af))) af)))))))
    (aj (az (i := 2) kz.nd rfl (Or.inl rfl) (aA (zS (K := K) rfl) (pv 2) (aY (aa (a6 (dB (K := K) rfl) (by rfl) T.ck cq (aa (pv 3) (aa (dt (v := .ref T.jD) rfl T.JD rfl) af))) (aa (a6 (dB (K := K) rfl) (by rfl) T.ck cq (aa (pv 3) (aa (dt (v := .ref T.jF) rfl T.JF rfl) af))) (aa (a6 (dB (K := K) rfl) (by rfl) T.ck cq (aa (pv 3) (aa (dt (v := .ref T.jG) rfl T.JG rfl) af))) (aa (a6 (dB (K := K) rfl) (by rfl) T.ck cq (aa (pv 3) (aa (dt (v := .ref T.jK) rfl T.JL rfl) af))) af)))))))
    (av (az (i := 2) kz.nd rfl (Or.inl rfl) (aA (zS (K := K) rfl) (pv 2) (aY (aa (a6 (dB (K := K) rfl) (by rfl) T.ck cq (aa (pv 3) (aa (dt (v := .ref T.jH) rfl T.JH rfl) af))) (aa (a6 (dB (K := K) rfl) (by rfl) T.ck cq (aa (pv 3) (aa (dt (v := .ref T.jJ) rfl T.JK rfl) af))) (aa (a6 (dB (K := K) rfl) (by rfl) T.ck cq (aa (pv 3) (aa (dt (v := .ref T.jL) rfl T.JM rfl) af))) af))))))))))))
  (av (aG (eI (eJ (tW hr.units) (pW Gq (pv 2) pS (pU ae)) (aY (aa cT (aa cT af))) (aR _)) (fL (eJ GC cT (pW Gq (pv 2) (pU ae) pS) (by with_unfolding_all rfl)))))))), ?_⟩
  walk_at "gzn"
  refine ⟨by decide, fun p9 Tw => ⟨?_, ?_⟩⟩
  ·have s0 := au (o := .tup []) Tw
   walk_at "gzn"
   exact ⟨x, p, b, e, t, u, d, m, xs, ps, rfl, hb.same s0, t1, t2, e0, e7, m0, s0.seq hX, hP.same s0, hn, fun _ => ⟨rfl, s0⟩, fun z => absurd z hk⟩
  ·rintro cls H' ⟨rfl, hs⟩
   refine ⟨_, rfl, T.JQ, fun a ha => ?_⟩
   have X0 := aq (H := H') (a := a) (o := eR a T.aU)
   have S0 := hs.trans (au (o := eR a T.aU) ha)
   generalize upd H' a (eR a T.aU) = Hx at X0 S0 ⊢
   walk_at "gzn"
   refine dC X0 T.c8 (fun z => nomatch z) T.JR ?_
   walk_at "gzn"
   refine dC X0 T.c8 (fun z => nomatch z) T.JS ?_
   walk_at "gzn"
   refine dC X0 T.c8 (fun z => nomatch z) T.JT ?_
   walk_at "gzn"
   refine dC X0 T.c8 (fun z => nomatch z) T.JU ?_
   walk_at "gzn"
   refine ⟨by decide, fun p0 KN => ?_⟩
   have w0 := au (o := .tup [.bl true, .bl true, .bl false, .bl false]) KN
   have X1 := w0 _ _ X0
   have S1 := S0.trans w0
   have P1 := aq (H := Hx) (a := p0) (o := .tup [.bl true, .bl true, .bl false, .bl false])
   generalize upd Hx p0 (.tup [.bl true, .bl true, .bl false, .bl false]) = H1 at w0 X1 S1 P1 ⊢
   refine dC X1 T.c8 (fun z => nomatch z) T.JV ?_
   walk_at "gzn"
   refine dC X1 T.c8 (fun z => nomatch z) T.JW ?_
   walk_at "gzn"
   refine dC X1 T.c8 (fun z => nomatch z) T.JX ?_
   walk_at "gzn"
   refine dC X1 T.c8 (fun z => nomatch z) T.JY ?_
   walk_at "gzn"
   refine ⟨by decide, fun p1 A5 => ?_⟩
   have w1 := au (o := .tup [.bl false, .bl false, .bl false, .bl false]) A5
   refine ⟨p0, p1, [.bl true, .bl true, .bl false, .bl false], [.bl false, .bl false, .bl false, .bl false], rfl, rfl, ai.of (w1 _ _ P1), ai.of aq, (fun z => nomatch z), by decide, (fun z => nomatch z), fun _ c1 qx => ?_⟩
   have k1 := au (o := .tup ([.bl true, .bl true, .bl false, .bl false] ++ [.bl false, .bl false, .bl false, .bl false])) qx
   have X2 := k1 _ _ (w1 _ _ X1)
   have S2 := S1.trans (w1.trans k1)
   have P2 := aq (H := upd H1 p1 (.tup [.bl false, .bl false, .bl false, .bl false])) (a := c1) (o := .tup ([.bl true, .bl true, .bl false, .bl false] ++ [.bl false, .bl false, .bl false, .bl false]))
   generalize upd (upd H1 p1 (.tup [.bl false, .bl false, .bl false, .bl false])) c1 (.tup ([.bl true, .bl true, .bl false, .bl false] ++ [.bl false, .bl false, .bl false, .bl false])) = H2 at k1 X2 S2 P2 ⊢
   walk_at "gzn"
   refine dC X2 T.c8 (fun z => nomatch z) T.JZ ?_
   walk_at "gzn"
   refine dC X2 T.c8 (fun z => nomatch z) T.J0 ?_
   walk_at "gzn"
   refine dC X2 T.c8 (fun z => nomatch z) T.J1 ?_
   walk_at "gzn"
   refine dC X2 T.c8 (fun z => nomatch z) T.J5 ?_
   walk_at "gzn"
   refine ⟨by decide, fun p2 kY => ?_⟩
   have w2 := au (o := .tup [.bl false, .bl false, .bl false, .bl false]) kY
   refine ⟨c1, p2, [.bl true, .bl true, .bl false, .bl false, .bl false, .bl false, .bl false, .bl false], [.bl false, .bl false, .bl false, .bl false], rfl, rfl, ai.of (w2 _ _ P2), ai.of aq, (fun z => nomatch z), by decide, (fun z => nomatch z), fun _ c2 gX => ?_⟩
   have k2 := au (o := .tup ([.bl true, .bl true, .bl false, .bl false, .bl false, .bl false, .bl false, .bl false] ++ [.bl false, .bl false, .bl false, .bl false])) gX
   have X3 := k2 _ _ (w2 _ _ X2)
   have S3 := S2.trans (w2.trans k2)
   have P3 := aq (H := upd H2 p2 (.tup [.bl false, .bl false, .bl false, .bl false])) (a := c2) (o := .tup ([.bl true, .bl true, .bl false, .bl false, .bl false, .bl false, .bl false, .bl false] ++ [.bl false, .bl false, .bl false, .bl false]))
   generalize upd (upd H2 p2 (.tup [.bl false, .bl false, .bl false, .bl false])) c2 (.tup ([.bl true, .bl true, .bl false, .bl false, .bl false, .bl false, .bl false, .bl false] ++ [.bl false, .bl false, .bl false, .bl false])) = H3 at k2 X3 S3 P3 ⊢
   walk_at "gzn"
   refine dC X3 T.c8 (fun z => nomatch z) T.J6 ?_
   walk_at "gzn"
   refine dC X3 T.c8 (fun z => nomatch z) T.J9 ?_
   walk_at "gzn"
   refine dC X3 T.c8 (fun z => nomatch z) T.Ka ?_
   walk_at "gzn"
   refine ⟨by decide, fun p3 kS => ?_⟩
   have w3 := au (o := .tup [.bl false, .bl false, .bl false]) kS
   refine ⟨c2, p3, [.bl true, .bl true, .bl false, .bl false, .bl false, .bl false, .bl false, .bl false, .bl false, .bl false, .bl false, .bl false], [.bl false, .bl false, .bl false], rfl, rfl, ai.of (w3 _ _ P3), ai.of aq, (fun z => nomatch z), by decide, (fun z => nomatch z), fun _ c3 Tz => ?_⟩
   have k3 := au (o := .tup ([.bl true, .bl true, .bl false, .bl false, .bl false, .bl false, .bl false, .bl false, .bl false, .bl false, .bl false, .bl false] ++ [.bl false, .bl false, .bl false])) Tz
   have X4 := k3 _ _ (w3 _ _ X3)
   have S4 := S3.trans (w3.trans k3)
   have P4 := aq (H := upd H3 p3 (.tup [.bl false, .bl false, .bl false])) (a := c3) (o := .tup ([.bl true, .bl true, .bl false, .bl false, .bl false, .bl false, .bl false, .bl false, .bl false, .bl false, .bl false, .bl false] ++ [.bl false, .bl false, .bl false]))
   generalize upd (upd H3 p3 (.tup [.bl false, .bl false, .bl false])) c3 (.tup ([.bl true, .bl true, .bl false, .bl false, .bl false, .bl false, .bl false, .bl false, .bl false, .bl false, .bl false, .bl false] ++ [.bl false, .bl false, .bl false])) = H4 at k3 X4 S4 P4 ⊢
   walk_at "gzn"
   refine ⟨c3, _, rfl, ai.of P4, by decide, fun r1 jP => ⟨bo, fun r2 AW => ?_⟩⟩
   have z1 := au (o := .tup (eO ([.bl true, .bl true, .bl false, .bl false, .bl false, .bl false, .bl false, .bl false, .bl false, .bl false, .bl false, .bl false] ++ [.bl false, .bl false, .bl false]) none (some 2))) jP
   have z2 := au (o := .tup [.bl true, .bl true]) AW
   refine Pl (d := .tuple [.bool true, .bool true]) (n := 1) (.tup (ai.of (z2 _ _ aq)) (.cons (.bl true) (.cons (.bl true) .nil))) (.tup (ai.of aq) (.cons (.bl true) (.cons (.bl true) .nil))) rfl (by decide) ⟨_, rfl, ?_⟩
   rw [if_pos (by decide)]
   have Z := z1.trans z2
   refine ⟨c3, _, rfl, ai.of (Z _ _ P4), by decide, fun r3 TC => ⟨r3, _, rfl, .inr (ai.of aq), rfl, rfl, ?_⟩⟩
   exact q _ (S4.trans (Z.trans (au TC)))
end
section
seal L2.PE L2.PS L2.bg L2.PA
variable {P : Program} {w : World} {K : PySem.W.Frag} {mg : Str -> Option Value} {base : Heap}
structure jR (e t u d m f : Int) : Prop where
 he : 1 <= e /\ e <= 7
 ht : 1 <= t /\ t <= 12
 hu : 0 <= u /\ u <= 6 * 1000000000000000000000000000000000000000000000000000000000
 hd : 0 <= d /\ d <= 6 * 1000000000000000000000000000000000000000000000000000000000
 hm : 0 <= m /\ m <= e
 hf : 1 <= f /\ f <= 1000000000000000000000000000000000000000000000000000000000
noncomputable def jS (e t u d m f : Int) : List V := [.int e, .int t, .int u, .int d, .int m, .int f]
noncomputable def TF (K : PySem.W.Frag) : Sp := fun vs H Q _ => ∃ (a : Addr) (ns : List Int), vs = [.ref a] /\ ah K H a (ns.map V.int) /\ eW ns /\ ∀ (l : Addr) (e t u d m f : Int) (H' : Hp), aw H H' -> H l = none -> H' l = some (.lst (jS e t u d m f)) -> jR e t u d m f -> Q (.ref l) H'
noncomputable def TH (w e t m : Int) : Prop := (1 <= t /\ t <= 12) /\ (1 <= e /\ e <= 7) /\ (0 <= m /\ m <= e) /\ (w = 1 ∨ w = 3 ∨ e <= 4)
noncomputable def xk (e t m : Int) : Prop := (1 <= t /\ t <= 12) /\ (1 <= e /\ e <= 7) /\ (0 <= m /\ m <= e)
noncomputable def xm (a : Addr) (H : Hp) (σ : St) (H' : Hp) : Prop := ∃ w e t m : Int, σ = [some (.ref a), some (.int w), some (.int e), some (.int t), some (.int m), none, none, none] /\ H' = H /\ TH w e t m
noncomputable def TJ (a : Addr) (H : Hp) (σ : St) (H' : Hp) : Prop := ∃ w e t m : Int, σ = [some (.ref a), some (.int w), some (.int e), some (.int t), some (.int m), none, none, none] /\ H' = H /\ xk e t m
noncomputable def TK (a : Addr) (H : Hp) (σ : St) (H' : Hp) : Prop := ∃ w e t m f : Int, σ = [some (.ref a), some (.int w), some (.int e), some (.int t), some (.int m), some (.int f), none, none] /\ aw H H' /\ xk e t m /\ 1 <= f /\ f <= 1000000000000000000000000000000000000000000000000000000000
noncomputable def TL (a : Addr) (H : Hp) (σ : St) (H' : Hp) : Prop := ∃ w e t m f u : Int, σ = [some (.ref a), some (.int w), some (.int e), some (.int t), some (.int m), some (.int f), some (.int u), none] /\ aw H H' /\ xk e t m /\ (1 <= f /\ f <= 1000000000000000000000000000000000000000000000000000000000) /\ 0 <= u /\ u <= 6 * 1000000000000000000000000000000000000000000000000000000000
noncomputable def KO (a : Addr) (H : Hp) (σ : St) (H' : Hp) : Prop := ∃ w e t m f u d : Int, σ = [some (.ref a), some (.int w), some (.int e), some (.int t), some (.int m), some (.int f), some (.int u), some (.int d)] /\ aw H H' /\ xk e t m /\ (1 <= f /\ f <= 1000000000000000000000000000000000000000000000000000000000) /\ (0 <= u /\ u <= 6 * 1000000000000000000000000000000000000000000000000000000000) /\ 0 <= d /\ d <= 6 * 1000000000000000000000000000000000000000000000000000000000
theorem KP {p f : Int} (h0 : 0 <= p) (h1 : p < 7) (f1 : 1 <= f) (f2 : f <= 1000000000000000000000000000000000000000000000000000000000) : 0 <= p * f /\ p * f <= 6 * 1000000000000000000000000000000000000000000000000000000000 := by
 have a := Int.mul_le_mul (show p <= 6 by omega) f2 (by omega) (by decide)
 exact ⟨Int.mul_nonneg h0 (by omega), a⟩
theorem TM (T : Tx K mg) : aJ P w K mg base (aK P w) 3 T.je T.vZ ["_law_script"] (TF K) := by
 refine okN T.n5 cj (fun vs H Q E h => ?_) (fun aI A outer s H vs Q E hr h => ?_)
 ·obtain ⟨a, ns, rfl, _⟩ := h
  rfl
 ·obtain ⟨a, ns, rfl, hS, hn, q⟩ := h
  refine ⟨_, (aj (az (i := 1) cj.nd rfl (Or.inl rfl) (aE (bY T) (hr.mono (by decide)) rfl T.bT T.bG.kp T.bO .nil aC (aa (pv 0) (aa ae (aa ae af)))))
  (aj (az (i := 2) cj.nd rfl (Or.inl rfl) (aA a5 ae (aE (bY T) (hr.mono (by decide)) rfl T.bT T.bG.kp T.bO .nil aC (aa (pv 0) (aa ae (aa ae af))))))
  (aj (az (i := 3) cj.nd rfl (Or.inl rfl) (aA a5 ae (aE (bY T) (hr.mono (by decide)) rfl T.bT T.bG.kp T.bO .nil aC (aa (pv 0) (aa ae (aa ae af))))))
  (aj (az (i := 4) cj.nd rfl (Or.inl rfl) (a6 (sy rfl) (by rfl) T.kN lK (aa (pv 2) (aa (aE (bY T) (hr.mono (by decide)) rfl T.bT T.bG.kp T.bO .nil aC (aa (pv 0) (aa ae (aa ae af)))) af))))
  (aj (aN (aX bJ (pv 1) ae (aR _)) (aj (az (i := 2) cj.nd rfl (Or.inl rfl) ae)
    (aj (az (i := 3) cj.nd rfl (Or.inl rfl) (aA a5 ae (aA gu (pv 3) ae)))
    (av (az (i := 4) cj.nd rfl (Or.inl rfl) (aE (bY T) (hr.mono (by decide)) rfl T.bT T.bG.kp T.bO .nil aC (aa (pv 0) (aa ae (aa ae af)))))))) aO)
  (aj (aN (aX bJ (pv 1) ae (aR _)) (aj (az (i := 2) cj.nd rfl (Or.inl rfl) (aA a5 ae (aA gu (pv 2) ae)))
    (aj (az (i := 3) cj.nd rfl (Or.inl rfl) (aA a5 ae (aE (bY T) (hr.mono (by decide)) rfl T.bT T.bG.kp T.bO .nil aC (aa (pv 0) (aa ae (aa ae af))))))
    (av (az (i := 4) cj.nd rfl (Or.inl rfl) (a6 (sy rfl) (by rfl) T.kN lK (aa (pv 2) (aa (pv 4) af))))))) aO)
  (aj (aN (aX bJ (pv 1) ae (aR _)) (aj (az (i := 2) cj.nd rfl (Or.inl rfl) (aA a5 ae (aA gu (pv 2) ae)))
    (aj (az (i := 3) cj.nd rfl (Or.inl rfl) ae)
    (av (az (i := 4) cj.nd rfl (Or.inl rfl) (aE (bY T) (hr.mono (by decide)) rfl T.bT T.bG.kp T.bO .nil aC (aa (pv 0) (aa ae (aa (aA a5 (pv 2) ae) af)))))))) aO)
  (aj (aN (aX bJ (pv 1) ae (aR _)) (aj (az (i := 2) cj.nd rfl (Or.inl rfl) (aA a5 ae (pv 2)))
    (aj (az (i := 3) cj.nd rfl (Or.inl rfl) (aA a5 ae (aE (bY T) (hr.mono (by decide)) rfl T.bT T.bG.kp T.bO .nil aC (aa (pv 0) (aa ae (aa ae af))))))
    (av (az (i := 4) cj.nd rfl (Or.inl rfl) (a6 (sy rfl) (by rfl) T.kN lK (aa (pv 4) (aa ae af))))))) aO)
  (aj (az (i := 5) cj.nd rfl (Or.inl rfl) (ak ao (cN (aa ae (aa ae (aa ae (aa ae (aa (aA a5 (aA lB ae ae) ae) (aa (aA a5 ae (aE (xb T) (hr.mono (by decide)) rfl T.rF T.gL.kp T.kK .nil aC (aa (pv 0) (aa ae (aa (aA lB ae ae) af))))) af))))))) (aE (bY T) (hr.mono (by decide)) rfl T.bT T.bG.kp T.bO .nil aC (aa (pv 0) (aa ae (aa ae af)))) (fun _ _ => rfl)))
  (aj (az (i := 6) cj.nd rfl (Or.inl rfl) (aA g7 (aE (bY T) (hr.mono (by decide)) rfl T.bT T.bG.kp T.bO .nil aC (aa (pv 0) (aa ae (aa ae af)))) (pv 5)))
  (aj (az (i := 7) cj.nd rfl (Or.inl rfl) (aA g7 (aE (bY T) (hr.mono (by decide)) rfl T.bT T.bG.kp T.bO .nil aC (aa (pv 0) (aa ae (aa ae af)))) (pv 5)))
  (aj (aN (aX bJ (aE (bY T) (hr.mono (by decide)) rfl T.bT T.bG.kp T.bO .nil aC (aa (pv 0) (aa ae (aa ae af)))) ae (aR _)) (aj (az (i := 6) cj.nd rfl (Or.inl rfl) ae)
    (av (az (i := 7) cj.nd rfl (Or.inl rfl) ae))) aO)
  (av (aG (cN (aa (pv 2) (aa (pv 3) (aa (pv 6) (aa (pv 7) (aa (pv 4) (aa (pv 5) af))))))))))))))))))))), ?_⟩
  refine a7 (fun σ H' => ∃ w : Int, σ = [some (.ref a), some (.int w), none, none, none, none, none, none] /\ H' = H) (fun N hN => ?_) ?_
  ·walk_at "gzn"
   refine ⟨a, ns, _, _, rfl, hS, hn, by omega, by omega, fun p p1 p2 => ?_⟩
   walk_at "gzn"
   exact hN _ _ ⟨_, rfl, rfl⟩
  rintro σ H' ⟨w, rfl, rfl⟩
  refine a7 (fun σ H1 => ∃ e : Int, σ = [some (.ref a), some (.int w), some (.int e), none, none, none, none, none] /\ H1 = H' /\ 1 <= e /\ e <= 4) (fun N hN => ?_) ?_
  ·walk_at "gzn"
   refine ⟨a, ns, _, _, rfl, hS, hn, by omega, by omega, fun p p1 p2 => ?_⟩
   walk_at "gzn"
   exact hN _ _ ⟨_, rfl, rfl, by omega, by omega⟩
  rintro σ H ⟨e, rfl, rfl, e1, e2⟩
  refine a7 (fun σ H1 => ∃ t : Int, σ = [some (.ref a), some (.int w), some (.int e), some (.int t), none, none, none, none] /\ H1 = H /\ 1 <= t /\ t <= 4) (fun N hN => ?_) ?_
  ·walk_at "gzn"
   refine ⟨a, ns, _, _, rfl, hS, hn, by omega, by omega, fun p p1 p2 => ?_⟩
   walk_at "gzn"
   exact hN _ _ ⟨_, rfl, rfl, by omega, by omega⟩
  rintro σ H' ⟨t, rfl, rfl, t1, t2⟩
  refine a7 (xm a H') (fun N hN => ?_) ?_
  ·walk_at "gzn"
   refine ⟨a, ns, _, _, rfl, hS, hn, by omega, by omega, fun p p1 p2 => ?_⟩
   walk_at "gzn"
   refine hN _ _ ⟨_, _, _, _, rfl, rfl, by omega, by omega, ?_, .inr (.inr e2)⟩
   split <;> omega
  rintro σ H ⟨w, e, t, m, rfl, rfl, hA⟩
  refine a7 (xm a H) (fun N hN => ?_) ?_
  ·obtain ⟨a1, a2, a3, a4⟩ := id hA
   walk_at "gzn"
   refine bz (fun hw => ?_) fun hw => ?_
   ·subst hw
    refine ⟨by decide, ?_⟩
    refine ⟨a, ns, _, _, rfl, hS, hn, by omega, by omega, fun p p1 p2 => ?_⟩
    walk_at "gzn"
    exact hN _ _ ⟨_, _, _, _, rfl, rfl, by omega, by omega, by omega, .inl rfl⟩
   ·exact hN _ _ ⟨_, _, _, _, rfl, rfl, hA⟩
  rintro σ H' ⟨w, e, t, m, rfl, rfl, hA⟩
  refine a7 (xm a H') (fun N hN => ?_) ?_
  ·obtain ⟨a1, a2, a3, a4⟩ := id hA
   walk_at "gzn"
   refine bz (fun hw => ?_) fun hw => ?_
   ·subst hw
    refine ⟨by decide, ?_⟩
    refine ⟨a, ns, _, _, rfl, hS, hn, by omega, by omega, fun p p1 p2 => ?_⟩
    walk_at "gzn"
    refine hN _ _ ⟨_, _, _, _, rfl, rfl, by omega, by omega, ?_, .inr (.inr (by omega))⟩
    split <;> omega
   ·exact hN _ _ ⟨_, _, _, _, rfl, rfl, hA⟩
  rintro σ H ⟨w, e, t, m, rfl, rfl, hA⟩
  refine a7 (xm a H) (fun N hN => ?_) ?_
  ·obtain ⟨a1, a2, a3, a4⟩ := id hA
   walk_at "gzn"
   refine bz (fun hw => ?_) fun hw => ?_
   ·subst hw
    refine ⟨by decide, ?_⟩
    refine ⟨a, ns, _, _, rfl, hS, hn, by omega, by omega, fun p p1 p2 => ?_⟩
    walk_at "gzn"
    exact hN _ _ ⟨_, _, _, _, rfl, rfl, by omega, by omega, by omega, .inr (.inl rfl)⟩
   ·exact hN _ _ ⟨_, _, _, _, rfl, rfl, hA⟩
  rintro σ H' ⟨w, e, t, m, rfl, rfl, hA⟩
  refine a7 (TJ a H') (fun N hN => ?_) ?_
  ·obtain ⟨a1, a2, a3, a4⟩ := id hA
   walk_at "gzn"
   refine bz (fun hw => ?_) fun hw => ?_
   ·subst hw
    refine ⟨a, ns, _, _, rfl, hS, hn, by omega, by omega, fun p p1 p2 => ?_⟩
    walk_at "gzn"
    refine hN _ _ ⟨_, _, _, _, rfl, rfl, by omega, by omega, ?_⟩
    split <;> omega
   ·exact hN _ _ ⟨_, _, _, _, rfl, rfl, a1, a2, a3⟩
  rintro σ H ⟨w, e, t, m, rfl, rfl, hA⟩
  refine a7 (TK a H) (fun N hN => ?_) ?_
  ·walk_at "gzn"
   refine ⟨⟨by decide, by decide, by decide⟩, ⟨by decide, by decide, by decide⟩, ?_⟩
   refine ⟨a, ns, _, _, rfl, hS, hn, by omega, by omega, fun f f1 f2 => ?_⟩
   walk_at "gzn"
   refine ⟨by decide, fun l hl => ?_⟩
   refine ⟨a, ns, _, _, rfl, (au hl).seq hS, hn, by omega, by omega, fun p p1 p2 => ?_⟩
   obtain ⟨v, hv, ev⟩ := zJ (vs := [1, 1, 1, 1, 1000000007, 1 + f]) p1 p2
   refine aL (ah.of aq) ev ?_
   walk_at "gzn"
   refine hN _ _ ⟨_, _, _, _, _, rfl, au hl, hA, ?_⟩
   simp only [List.mem_cons, List.not_mem_nil, or_false] at hv
   omega
  rintro σ H1 ⟨w, e, t, m, f, rfl, s1, hA, f1, f2⟩
  refine a7 (TL a H) (fun N hN => ?_) ?_
  ·walk_at "gzn"
   refine ⟨a, ns, _, _, rfl, s1.seq hS, hn, by omega, by omega, fun p p1 p2 => ?_⟩
   walk_at "gzn"
   refine ⟨ko (by omega) (by omega), ?_⟩
   exact hN _ _ ⟨_, _, _, _, _, _, rfl, s1, hA, ⟨f1, f2⟩, KP p1 p2 f1 f2⟩
  rintro σ H2 ⟨w, e, t, m, f, u, rfl, s2, hA, ⟨f1, f2⟩, hu⟩
  refine a7 (KO a H) (fun N hN => ?_) ?_
  ·walk_at "gzn"
   refine ⟨a, ns, _, _, rfl, s2.seq hS, hn, by omega, by omega, fun p p1 p2 => ?_⟩
   walk_at "gzn"
   refine ⟨ko (by omega) (by omega), ?_⟩
   exact hN _ _ ⟨_, _, _, _, _, _, _, rfl, s2, hA, ⟨f1, f2⟩, hu, KP p1 p2 f1 f2⟩
  rintro σ H3 ⟨w, e, t, m, f, u, d, rfl, s3, hA, ⟨f1, f2⟩, hu, hd⟩
  refine a7 (KO a H) (fun N hN => ?_) ?_
  ·walk_at "gzn"
   refine ⟨a, ns, _, _, rfl, s3.seq hS, hn, by omega, by omega, fun p p1 p2 => ?_⟩
   walk_at "gzn"
   refine bz (fun hw => ?_) fun hw => ?_
   ·exact hN _ _ ⟨_, _, _, _, _, _, _, rfl, s3, hA, ⟨f1, f2⟩, by decide, by decide⟩
   ·exact hN _ _ ⟨_, _, _, _, _, _, _, rfl, s3, hA, ⟨f1, f2⟩, hu, hd⟩
  rintro σ H4 ⟨w, e, t, m, f, u, d, rfl, s4, hA, hf, hu, hd⟩
  walk_at "gzn"
  refine ⟨by decide, fun l hl => ?_⟩
  obtain ⟨a1, a2, a3⟩ := hA
  exact q l e t u d m f _ (s4.trans (au hl)) (s4.free hl) aq ⟨a2, a1, hu, hd, a3, hf⟩
end
section
seal L2.PE L2.PS L2.bg L2.PA
variable {P : Program} {w : World} {K : PySem.W.Frag} {mg : Str -> Option Value} {base : Heap}
noncomputable def rT (u d : Int) (cs : List Int) : Prop := ∀ i, i + 1 < cs.length -> -d <= cs.getD (i + 1) 0 - cs.getD i 0 /\ cs.getD (i + 1) 0 - cs.getD i 0 <= u
theorem rT.snoc {u d n k : Int} {cs : List Int} (h : rT u d (cs ++ [n])) (h1 : -d <= k - n) (h2 : k - n <= u) : rT u d (cs ++ [n] ++ [k]) := by
 intro i hi
 rw [List.length_append, List.length_append, List.length_singleton, List.length_singleton] at hi
 by_cases e : i + 1 < (cs ++ [n]).length
 ·have := h i e
  simp only [List.getD_eq_getElem?_getD] at this ⊢
  rw [List.getElem?_append_left (l₁ := cs ++ [n]) e, List.getElem?_append_left (l₁ := cs ++ [n]) (by omega)]
  exact this
 ·rw [List.length_append, List.length_singleton] at e
  have ei : i = cs.length := by omega
  subst ei
  have a1 : (cs ++ [n] ++ [k])[cs.length + 1]? = some k := by simp
  have a2 : (cs ++ [n] ++ [k])[cs.length]? = some n := by simp
  simp only [List.getD_eq_getElem?_getD, a1, a2, Option.getD_some]
  exact ⟨h1, h2⟩
noncomputable def TN (K : PySem.W.Frag) : Sp := fun vs H Q _ => ∃ (a b : Addr) (ns : List Int) (e t u d m f : Int), vs = [.ref a, .ref b] /\ ah K H a (ns.map V.int) /\ eW ns /\ ah K H b (jS e t u d m f) /\ jR e t u d m f /\ ∀ (l : Addr) (cs : List Int) (H' : Hp), aw H H' -> H l = none -> H' l = some (.lst (cs.map V.int)) -> cs.length = t.toNat -> rT u d cs -> Q (.ref l) H'
noncomputable def TQ (H : Hp) (a b l : Addr) (z u d : Int) (i : Nat) (σ : St) (H1 : Hp) : Prop := ∃ (cs : List Int) (n : Int) (e1 : Option V), σ = [some (.ref a), some (.ref b), some (.int z), some (.int n), some (.ref l), e1] /\ aw H H1 /\ H1 l = some (.lst ((cs ++ [n]).map V.int)) /\ cs.length = i /\ rT u d (cs ++ [n])
theorem TR (T : Tx K mg) : aJ P w K mg base (aK P w) 3 T.jf T.v7 ["_law_script", "_law_shape_here"] (TN K) := by
 refine okN T.n6 nB (fun vs H Q E h => ?_) (fun aI A outer s H vs Q E hr h => ?_)
 ·obtain ⟨a, b, ns, e, t, u, d, m, f, rfl, _⟩ := h
  rfl
 ·obtain ⟨a, b, ns, e, t, u, d, m, f, rfl, hS, hn, hb, sh, q⟩ := h
  refine ⟨_, (aj (az (i := 2) nB.nd rfl (Or.inl rfl) (ak ao (cN (aa ae (aa ae (aa (aA lB ae ae) (aa (aA g7 (aA lB ae ae) (aA lB ae ae)) af))))) (aE (bY T) (hr.mono (by decide)) rfl T.bT T.bG.kp T.bO .nil aC (aa (pv 0) (aa ae (aa ae af)))) (fun _ _ => rfl)))
  (aj (az (i := 3) nB.nd rfl (Or.inl rfl) (aA cU (aE (xb T) (hr.mono (by decide)) rfl T.rF T.gL.kp T.kK .nil aC (aa (pv 0) (aa ae (aa (aA a5 (aA g7 ae (pv 2)) ae) af)))) (pv 2)))
  (aj (az (i := 4) nB.nd rfl (Or.inl rfl) (cN (aa (pv 3) af)))
  (aj (cI PassesOwn.never rfl (fh rfl T.dS (aa (aA cU (ak ao (pv 1) ae (fun _ _ => rfl)) ae) af)) (bc (i := 5) nB.nd rfl (Or.inl rfl)) (aj (az (i := 3) nB.nd rfl (Or.inl rfl) (aA cU (aA a5 (pv 3) (aE (xb T) (hr.mono (by decide)) rfl T.rF T.gL.kp T.kK .nil aC (aa (pv 0) (aa (aA a5 ae (pv 5)) (aa (aA a5 (aA a5 (ak ao (pv 1) ae (fun _ _ => rfl)) (ak ao (pv 1) ae (fun _ _ => rfl))) ae) af))))) (ak ao (pv 1) ae (fun _ _ => rfl))))
    (av (gR (j7 PySem.F.plainAttrs_list PySem.F.slot_list_append PySem.F.type_list_append qc (pv 4) (aa (pv 3) af))))))
  (av (aG (pv 4))))))), ?_⟩
  obtain ⟨⟨e1, e2⟩, ⟨t1, t2⟩, ⟨u1, u2⟩, ⟨d1, d2⟩, -, -⟩ := id sh
  walk_at "gzn"
  refine ⟨⟨by decide, by decide, by decide⟩, ⟨by decide, by decide, by decide⟩, ⟨by decide, by decide, by decide⟩, GL (by decide) (by decide), by decide, fun r eA => ?_⟩
  have P1 : upd H r (.lst [V.int 9, V.int 1000, V.int 1000000000000000000, V.int 1000000000000000000000000000000000000000000000000000000000000000000000000000000000000000000000000000000000000000000000000]) r = some (.lst (([9, 1000, 1000000000000000000, 1000000000000000000000000000000000000000000000000000000000000000000000000000000000000000000000000000000000000000000000000] : List Int).map V.int)) := aq
  have s1 := au (o := .lst [V.int 9, V.int 1000, V.int 1000000000000000000, V.int 1000000000000000000000000000000000000000000000000000000000000000000000000000000000000000000000000000000000000000000000000]) eA
  refine ⟨a, ns, _, _, rfl, s1.seq hS, hn, by decide, by decide, fun k h1 h2 => ?_⟩
  obtain ⟨z, hz, ez⟩ := zJ (vs := ([9, 1000, 1000000000000000000, 1000000000000000000000000000000000000000000000000000000000000000000000000000000000000000000000000000000000000000000000000] : List Int)) h1 h2
  have hz : 0 <= z /\ z <= 1000000000000000000000000000000000000000000000000000000000000000000000000000000000000000000000000000000000000000000000000 := by
   simp only [List.mem_cons, List.not_mem_nil, or_false] at hz
   omega
  refine aL (ah.of P1) ez ?_
  walk_at "gzn"
  generalize upd H r (.lst [V.int 9, V.int 1000, V.int 1000000000000000000, V.int 1000000000000000000000000000000000000000000000000000000000000000000000000000000000000000000000000000000000000000000000000]) = H1 at s1 ⊢
  refine ⟨ko (by decide) (by omega), ?_⟩
  refine ⟨a, ns, _, _, rfl, s1.seq hS, hn, by decide, by omega, fun n0 _ _ => ?_⟩
  walk_at "gzn"
  refine ⟨by decide, fun l hl => ?_⟩
  have b0 : H l = none := s1.free hl
  have s2 := s1.trans (au (o := .lst [V.int (n0 - z)]) hl)
  refine aL (s2.seq hb) (v := .int t) rfl ?_
  walk_at "gzn"
  refine ⟨by omega, by omega, qi (TQ H a b l z u d) ⟨[], _, _, rfl, s2, aq, rfl, fun i hi => ?_⟩ ?_ ?_⟩
  ·simp at hi
  ·rintro i σ H3 hi ⟨cs, n, e1, rfl, s3, L3, hlen, cn⟩
   walk_at "gzn"
   refine aL (s3.seq hb) (v := .int u) rfl (aL (s3.seq hb) (v := .int d) rfl ?_)
   walk_at "gzn"
   refine ⟨a, ns, _, _, rfl, s3.seq hS, hn, by omega, by omega, fun k k1 k2 => ?_⟩
   walk_at "gzn"
   refine aL (s3.seq hb) (v := .int d) rfl ?_
   walk_at "gzn"
   refine ⟨.inl ⟨rfl, _, ah.of L3⟩, _, L3, ?_, cs ++ [n], _, _, rfl, g9 b0 s3, ?_, ?_, ?_⟩
   ·rw [List.length_map, List.length_append, List.length_singleton]
    exact Nat.lt_of_le_of_lt (by omega : _ <= 13) (by decide)
   ·simp only [aq, List.map_append, List.map_cons, List.map_nil]
   ·rw [List.length_append, List.length_singleton, hlen]
   ·exact cn.snoc (by omega) (by omega)
  ·rintro σ H3 ⟨cs, n, e1, rfl, s3, L3, hlen, cn⟩
   walk_at "gzn"
   exact q l _ H3 s3 b0 L3 (by rw [List.length_append, List.length_singleton]; omega) cn
noncomputable def TU (K : PySem.W.Frag) : Sp := fun vs H Q _ => ∃ (a : Addr) (ns : List Int) (k f n : Int) (b : Bool), vs = [.ref a, .int k, .int f, .int n, .bl b] /\ ah K H a (ns.map V.int) /\ eW ns /\ (-900000 <= k /\ k <= 900000) /\ (1 <= f /\ f <= 1000000000000000000000000000000000000000000000000000000000) /\ ∀ (p : Addr) (lo hi : En) (H' : Hp), aw H H' -> H p = none -> H' p = some (.tup [ev lo, ev hi]) -> ba lo hi = false -> (b = false -> hold lo hi n = true) -> Q (.ref p) H'
noncomputable def TV (a : Addr) (H : Hp) (k f n : Int) (b : Bool) (σ : St) (H' : Hp) : Prop := ∃ y lo hi : Int, σ = [some (.ref a), some (.int k), some (.int f), some (.int n), some (.bl b), some (.int y), some (.int lo), some (.int hi), none] /\ aw H H' /\ (1 <= y /\ y <= 1000000000000000000000000000000000000000000000000000000000) /\ lo <= hi /\ (b = false -> lo <= n /\ n <= hi)
noncomputable def TX (a : Addr) (H : Hp) (k f n : Int) (b : Bool) (σ : St) (H' : Hp) : Prop := ∃ y lo hi : Int, σ = [some (.ref a), some (.int k), some (.int f), some (.int n), some (.bl b), some (.int y), some (.int lo), some (.int hi), none] /\ aw H H' /\ lo <= hi /\ (b = false -> lo <= n /\ n <= hi)
noncomputable def Bb (a : Addr) (H : Hp) (k f n : Int) (b : Bool) (σ : St) (H' : Hp) : Prop := ∃ (y g lo : Int) (l h : En) (hi : Int), σ = [some (.ref a), some (.int k), some (.int f), some (.int n), some (.bl b), some (.int y), some (ev l), some (ev h), some (.int g)] /\ aw H H' /\ (l = none ∨ l = some lo) /\ (h = none ∨ h = some hi) /\ lo <= hi /\ (b = false -> lo <= n /\ n <= hi)
theorem KQ {p y : Int} (h0 : 0 <= p) (y0 : 0 <= y) : 0 <= p * y := Int.mul_nonneg h0 y0
theorem TY (T : Tx K mg) : aJ P w K mg base (aK P w) 2 T.jg T.v9 ["_law_script", "_law_k", "_law_far", "_law_number", "_law_false"] (TU K) := by
 refine okN T.n9 gf (fun vs H Q E h => ?_) (fun aI A outer s H vs Q E hr h => ?_)
 ·obtain ⟨a, ns, k, f, n, b, rfl, _⟩ := h
  rfl
 ·obtain ⟨a, ns, k, f, n, b, rfl, hS, hn, hk, hf, q⟩ := h
  refine ⟨_, (aj (az (i := 5) gf.nd rfl (Or.inl rfl) (ak ao (cN (aa ae (aa (pv 2) af))) (aE (bY T) (hr.mono (by decide)) rfl T.bT T.bG.kp T.bO .nil aC (aa (pv 0) (aa (pv 1) (aa ae af)))) (fun _ _ => rfl)))
  (aj (az (i := 6) gf.nd rfl (Or.inl rfl) (aA cU (pv 3) (aA g7 (aE (bY T) (hr.mono (by decide)) rfl T.bT T.bG.kp T.bO .nil aC (aa (pv 0) (aa (aA a5 (pv 1) ae) (aa ae af)))) (pv 5))))
  (aj (az (i := 7) gf.nd rfl (Or.inl rfl) (aA a5 (pv 3) (aA g7 (aE (bY T) (hr.mono (by decide)) rfl T.bT T.bG.kp T.bO .nil aC (aa (pv 0) (aa (aA a5 (pv 1) ae) (aa ae af)))) (pv 5))))
  (aj (aN (dY (pv 4)) (aj (az (i := 5) gf.nd rfl (Or.inl rfl) (aA g7 (aA cU (aE (bY T) (hr.mono (by decide)) rfl T.bT T.bG.kp T.bO .nil aC (aa (pv 0) (aa (aA a5 (pv 1) ae) (aa ae af)))) ae) (pv 5)))
    (aj (az (i := 6) gf.nd rfl (Or.inl rfl) (aA a5 (pv 6) (pv 5)))
    (av (az (i := 7) gf.nd rfl (Or.inl rfl) (aA a5 (pv 7) (pv 5)))))) aO)
  (aj (az (i := 8) gf.nd rfl (Or.inl rfl) (aE (bY T) (hr.mono (by decide)) rfl T.bT T.bG.kp T.bO .nil aC (aa (pv 0) (aa (aA a5 (pv 1) ae) (aa ae af)))))
  (aj (aN (PW.pt (cG (aX bJ (pv 8) ae (aR _)) (dc (aX bJ (pv 8) ae (aR _))))) (av (az (i := 6) gf.nd rfl (Or.inl rfl) bA)) aO)
  (aj (aN (PW.pt (cG (aX bJ (pv 8) ae (aR _)) (dc (aX bJ (pv 8) ae (aR _))))) (av (az (i := 7) gf.nd rfl (Or.inl rfl) bA)) aO)
  (av (aG (aY (aa (pv 6) (aa (pv 7) af)))))))))))), ?_⟩
  refine a7 (fun σ H' => ∃ y : Int, σ = [some (.ref a), some (.int k), some (.int f), some (.int n), some (.bl b), some (.int y), none, none, none] /\ aw H H' /\ 1 <= y /\ y <= 1000000000000000000000000000000000000000000000000000000000) (fun N hN => ?_) ?_
  ·walk_at "gzn"
   refine ⟨by decide, fun l hl => ?_⟩
   refine ⟨a, ns, _, _, rfl, (au hl).seq hS, hn, by omega, by omega, fun p p1 p2 => ?_⟩
   obtain ⟨v, hv, ev⟩ := zJ (vs := [1, f]) p1 p2
   refine aL (ah.of aq) ev ?_
   walk_at "gzn"
   refine hN _ _ ⟨_, rfl, au hl, ?_⟩
   simp only [List.mem_cons, List.not_mem_nil, or_false] at hv
   omega
  rintro σ H1 ⟨y, rfl, s1, y1, y2⟩
  refine a7 (fun σ H' => ∃ lo : Int, σ = [some (.ref a), some (.int k), some (.int f), some (.int n), some (.bl b), some (.int y), some (.int lo), none, none] /\ H' = H1 /\ lo <= n) (fun N hN => ?_) ?_
  ·walk_at "gzn"
   refine ⟨a, ns, _, _, rfl, s1.seq hS, hn, by omega, by omega, fun p p1 p2 => ?_⟩
   walk_at "gzn"
   have := KQ p1 (show 0 <= y by omega)
   exact ⟨ko (by omega) (by omega), hN _ _ ⟨_, rfl, rfl, by omega⟩⟩
  rintro σ H2 ⟨lo, rfl, rfl, l1⟩
  refine a7 (TV a H k f n b) (fun N hN => ?_) ?_
  ·walk_at "gzn"
   refine ⟨a, ns, _, _, rfl, s1.seq hS, hn, by omega, by omega, fun p p1 p2 => ?_⟩
   walk_at "gzn"
   have := KQ p1 (show 0 <= y by omega)
   exact ⟨ko (by omega) (by omega), hN _ _ ⟨_, _, _, rfl, s1, ⟨y1, y2⟩, by omega, fun _ => by omega⟩⟩
  rintro σ H3 ⟨y, lo, hi, rfl, s3, hy, h1, h2⟩
  refine a7 (TX a H k f n b) (fun N hN => ?_) ?_
  ·cases b with
   | true =>
    walk_at "gzn"
    refine ⟨a, ns, _, _, rfl, s3.seq hS, hn, by omega, by omega, fun p p1 p2 => ?_⟩
    walk_at "gzn"
    exact ⟨ko (by omega) (by omega), hN _ _ ⟨_, _, _, rfl, s3, by omega, fun z => nomatch z⟩⟩
   | false =>
    walk_at "gzn"
    exact hN _ _ ⟨_, _, _, rfl, s3, h1, h2⟩
  rintro σ H4 ⟨y, lo, hi, rfl, s4, h1, h2⟩
  refine a7 (Bb a H k f n b) (fun N hN => ?_) ?_
  ·walk_at "gzn"
   refine ⟨a, ns, _, _, rfl, s4.seq hS, hn, by omega, by omega, fun p p1 p2 => ?_⟩
   walk_at "gzn"
   exact hN _ _ ⟨_, _, lo, some lo, some hi, hi, rfl, s4, .inr rfl, .inr rfl, h1, h2⟩
  rintro σ H5 ⟨y, g, lo, l, h, hi, rfl, s5, hl, hh, h1, h2⟩
  refine a7 (Bb a H k f n b) (fun N hN => ?_) ?_
  ·walk_at "gzn"
   have none_ := hN _ _ ⟨y, g, lo, none, h, hi, rfl, s5, .inl rfl, hh, h1, h2⟩
   have Bc := hN _ _ ⟨y, g, lo, l, h, hi, rfl, s5, hl, hh, h1, h2⟩
   exact bz (fun _ => none_) fun _ => bz (fun _ => none_) fun _ => Bc
  rintro σ H6 ⟨y, g, lo, l, h, hi, rfl, s6, hl, hh, h1, h2⟩
  refine a7 (Bb a H k f n b) (fun N hN => ?_) ?_
  ·walk_at "gzn"
   have none_ := hN _ _ ⟨y, g, lo, l, none, hi, rfl, s6, hl, .inl rfl, h1, h2⟩
   have Bc := hN _ _ ⟨y, g, lo, l, h, hi, rfl, s6, hl, hh, h1, h2⟩
   exact bz (fun _ => none_) fun _ => bz (fun _ => none_) fun _ => Bc
  rintro σ H7 ⟨y, g, lo, l, h, hi, rfl, s7, hl, hh, h1, h2⟩
  walk_at "gzn"
  refine ⟨bo, fun p hp => q p l h _ (s7.trans (au hp)) (s7.free hp) aq ?_ fun hb => zy.mpr ⟨?_, ?_⟩⟩
  ·rcases hl with rfl | rfl <;> rcases hh with rfl | rfl <;> simp [ba] <;> omega
  ·intro x hx
   rcases hl with rfl | rfl <;> cases hx
   exact (h2 hb).1
  ·intro x hx
   rcases hh with rfl | rfl <;> cases hx
   exact (h2 hb).2
end
section
seal L2.PE L2.PS L2.bg L2.PA
variable {P : Program} {w : World} {K : PySem.W.Frag} {mg : Str -> Option Value} {base : Heap}
noncomputable def TZ (K : PySem.W.Frag) : Sp := fun vs H Q _ => ∃ (a b c : Addr) (ns cs : List Int) (e t u d m f : Int), vs = [.ref a, .ref b, .ref c] /\ ah K H a (ns.map V.int) /\ eW ns /\ ah K H b (jS e t u d m f) /\ jR e t u d m f /\ ah K H c (cs.map V.int) /\ cs.length = t.toNat /\ ∀ (l : Addr) (xs : List V) (ps : List Pa) (H' : Hp), aw H H' -> H l = none -> H' l = some (.lst xs) -> bX H' xs ps -> di t ps -> ps.length <= 64 -> Q (.ref l) H'
noncomputable def Be (H : Hp) (a b c l : Addr) (t : Int) (n : Nat) (i : Nat) (σ : St) (H1 : Hp) : Prop := ∃ (xs : List V) (ps : List Pa) (e1 e2 e3 e4 e5 e6 : Option V), σ = [some (.ref a), some (.ref b), some (.ref c), some (.ref l), e1, e2, e3, e4, e5, e6] /\ aw H H1 /\ H1 l = some (.lst xs) /\ bX H1 xs ps /\ di t ps /\ ps.length = i
theorem T4 (T : Tx K mg) : aJ P w K mg base (aK P w) 3 T.jA T.wO ["_law_script", "_law_shape_here", "_law_course_here"] (TZ K) := by
 refine okN T.oB gh (fun vs H Q E h => ?_) (fun aI A outer s H vs Q E hr h => ?_)
 ·obtain ⟨a, b, c, ns, cs, e, t, u, d, m, f, rfl, _⟩ := h
  rfl
 ·obtain ⟨a, b, c, ns, cs, e, t, u, d, m, f, rfl, hS, hn, hb, sh, hc, cu, q⟩ := h
  refine ⟨_, (aj (az (i := 3) gh.nd rfl (Or.inl rfl) (cN af))
  (aj (cI PassesOwn.never rfl (fh rfl T.dS (aa (aE (bY T) (hr.mono (by decide)) rfl T.bT T.bG.kp T.bO .nil aC (aa (pv 0) (aa ae (aa ae af)))) af)) (bc (i := 4) gh.nd rfl (Or.inl rfl)) (aj (az (i := 5) gh.nd rfl (Or.inl rfl) (aA a5 ae (aA g7 ae (pv 4))))
    (aj (az (i := 6) gh.nd rfl (Or.inl rfl) (aE (bY T) (hr.mono (by decide)) rfl T.bT T.bG.kp T.bO .nil aC (aa (pv 0) (aa (pv 5) (aa (ak ao (pv 1) ae (fun _ _ => rfl)) af)))))
    (aj (az (i := 7) gh.nd rfl (Or.inl rfl) bq)
    (aj (az (i := 8) gh.nd rfl (Or.inl rfl) (ak ao (pv 2) (pv 6) (fun _ _ => rfl)))
    (aj (aN (PW.pt (du (aX fP (aA a5 (pv 6) ae) (ak ao (pv 1) ae (fun _ _ => rfl)) (aR _)) (dZ (aX bJ (aE (bY T) (hr.mono (by decide)) rfl T.bT T.bG.kp T.bO .nil aC (aa (pv 0) (aa (aA a5 (pv 5) ae) (aa ae af)))) ae (aR _))))) (aj (az (i := 7) gh.nd rfl (Or.inl rfl) bq)
      (av (az (i := 8) gh.nd rfl (Or.inl rfl) (aA cU (ak ao (pv 2) (aA a5 (pv 6) ae) (fun _ _ => rfl)) (pv 8))))) aO)
    (aj (az (i := 9) gh.nd rfl (Or.inl rfl) (eJ bJ (aE (bY T) (hr.mono (by decide)) rfl T.bT T.bG.kp T.bO .nil aC (aa (pv 0) (aa (aA a5 (pv 5) ae) (aa ae af)))) ae (aR _)))
    (av (gR (j7 PySem.F.plainAttrs_list PySem.F.slot_list_append PySem.F.type_list_append qc (pv 3) (aa (aY (aa (pv 7) (aa (pv 6) (aa (aE (TY T) (hr.mono (by decide)) rfl T.Jh T.n9.kp T.wa .nil aC (aa (pv 0) (aa (aA a5 (pv 5) ae) (aa (ak ao (pv 1) ae (fun _ _ => rfl)) (aa (pv 8) (aa (pv 9) af)))))) af)))) af)))))))))))
  (av (aG (pv 3))))), ?_⟩
  obtain ⟨⟨e1, e2⟩, ⟨t1, t2⟩, ⟨u1, u2⟩, ⟨d1, d2⟩, -, hf⟩ := id sh
  have L1 : ∀ (l : Addr) (n : Nat) (H0 : Hp), H l = none -> aw H H0 -> H0 l = some (.lst []) -> n <= 64 -> Be H a b c l t n 0 [some (.ref a), some (.ref b), some (.ref c), some (.ref l), none, none, none, none, none, none] H0 := fun l n H0 _ s hl _ => ⟨[], [], _, _, _, _, _, _, rfl, s, hl, trivial, fun _ h => by simp at h, rfl⟩
  refine a7 (fun σ H' => ∃ l, σ = [some (.ref a), some (.ref b), some (.ref c), some (.ref l), none, none, none, none, none, none] /\ aw H H' /\ H l = none /\ H' l = some (.lst [])) (fun N hN => ?_) ?_
  ·walk_at "gzn"
   exact ⟨by decide, fun l hl => hN _ _ ⟨l, rfl, au hl, hl, aq⟩⟩
  rintro σ H1 ⟨l, rfl, s1, b0, AZ⟩
  refine a7 (fun σ H' => ∃ n : Nat, Be H a b c l t n n σ H' /\ n <= 64) (fun N hN => ?_) ?_
  ·walk_at "gzn"
   refine ⟨a, ns, _, _, rfl, s1.seq hS, hn, by omega, by omega, fun pn pn1 pn2 => ?_⟩
   obtain ⟨n, rfl⟩ : ∃ n : Nat, pn = (n : Int) := ⟨pn.toNat, by omega⟩
   have Bf : n <= 64 := by omega
   refine ⟨_, rfl, by omega, by omega, qi (Be H a b c l t n) (L1 l n _ b0 s1 AZ Bf) ?_ ?_⟩
   ·rintro i σ H3 hi ⟨xs, ps, _, _, _, _, _, _, rfl, s3, bC, hP, hk, hlen⟩
    walk_at "gzn"
    have hl := hP.len
    refine ⟨ko (by decide) (by omega), aL (s3.seq hb) (v := .int t) rfl ?_⟩
    refine ⟨a, ns, _, _, rfl, s3.seq hS, hn, by omega, by omega, fun p p1 p2 => ?_⟩
    refine aL (s3.seq hc) (int_at p1 (by omega)) ?_
    walk_at "gzn"
    refine aL (s3.seq hb) (v := .int t) rfl ?_
    walk_at "gzn"
    refine bz (fun h1 => ?_) fun h1 => ?_
    ·refine ⟨a, ns, _, _, rfl, s3.seq hS, hn, by omega, by omega, fun r r1 r2 => ?_⟩
     walk_at "gzn"
     refine bz (fun h2 => ?_) fun h2 => ?_
     ·refine aL (s3.seq hc) (int_at (by omega) (by omega)) ?_
      walk_at "gzn"
      refine ⟨a, ns, _, _, rfl, s3.seq hS, hn, by omega, by omega, fun z z1 z2 => ?_⟩
      walk_at "gzn"
      refine ⟨.inl ⟨rfl, _, ah.of bC⟩, aL (s3.seq hb) (v := .int f) rfl ?_⟩
      refine ⟨a, ns, _, _, _, _, rfl, s3.seq hS, hn, by omega, hf, fun w lo hi H5 s5 _ hw _ _ => ?_⟩
      walk_at "gzn"
      refine ⟨by decide, fun t5 rV => ?_⟩
      have s6 := au (o := .tup [.str "step", .int p, .ref w]) rV
      refine ⟨_, s6 _ _ (s5 _ _ bC), Nat.lt_of_le_of_lt (by omega : xs.length <= 64) (by decide), xs ++ [.ref t5], ps ++ [(("step", p, lo, hi) : Pa)], _, _, _, _, _, _, rfl, g9 b0 (s3.trans (s5.trans s6)), aq, bX.put (ay.snoc (hP.same (s5.trans s6)) ⟨t5, w, rfl, aq, s6 _ _ hw⟩) (s6 _ _ (s5 _ _ bC)), fun y hy => ?_, by rw [List.length_append, List.length_singleton, hlen]⟩
      rcases List.mem_append.mp hy with h | h
      ·exact hk y h
      ·obtain rfl : y = (("step", p, lo, hi) : Pa) := by simpa using h
       exact lY.mpr (by dsimp only; omega)
     ·refine ⟨a, ns, _, _, rfl, s3.seq hS, hn, by omega, by omega, fun z z1 z2 => ?_⟩
      walk_at "gzn"
      refine ⟨.inl ⟨rfl, _, ah.of bC⟩, aL (s3.seq hb) (v := .int f) rfl ?_⟩
      refine ⟨a, ns, _, _, _, _, rfl, s3.seq hS, hn, by omega, hf, fun w lo hi H5 s5 _ hw _ _ => ?_⟩
      walk_at "gzn"
      refine ⟨by decide, fun t5 rV => ?_⟩
      have s6 := au (o := .tup [.str "at", .int p, .ref w]) rV
      refine ⟨_, s6 _ _ (s5 _ _ bC), Nat.lt_of_le_of_lt (by omega : xs.length <= 64) (by decide), xs ++ [.ref t5], ps ++ [(("at", p, lo, hi) : Pa)], _, _, _, _, _, _, rfl, g9 b0 (s3.trans (s5.trans s6)), aq, bX.put (ay.snoc (hP.same (s5.trans s6)) ⟨t5, w, rfl, aq, s6 _ _ hw⟩) (s6 _ _ (s5 _ _ bC)), fun y hy => ?_, by rw [List.length_append, List.length_singleton, hlen]⟩
      rcases List.mem_append.mp hy with h | h
      ·exact hk y h
      ·obtain rfl : y = (("at", p, lo, hi) : Pa) := by simpa using h
       exact (eY (show ("at" : Str) ≠ "step" by decide)).mpr ⟨rfl, by dsimp only; omega, by dsimp only; omega⟩
    ·refine ⟨a, ns, _, _, rfl, s3.seq hS, hn, by omega, by omega, fun z z1 z2 => ?_⟩
     walk_at "gzn"
     refine ⟨.inl ⟨rfl, _, ah.of bC⟩, aL (s3.seq hb) (v := .int f) rfl ?_⟩
     refine ⟨a, ns, _, _, _, _, rfl, s3.seq hS, hn, by omega, hf, fun w lo hi H5 s5 _ hw _ _ => ?_⟩
     walk_at "gzn"
     refine ⟨by decide, fun t5 rV => ?_⟩
     have s6 := au (o := .tup [.str "at", .int p, .ref w]) rV
     refine ⟨_, s6 _ _ (s5 _ _ bC), Nat.lt_of_le_of_lt (by omega : xs.length <= 64) (by decide), xs ++ [.ref t5], ps ++ [(("at", p, lo, hi) : Pa)], _, _, _, _, _, _, rfl, g9 b0 (s3.trans (s5.trans s6)), aq, bX.put (ay.snoc (hP.same (s5.trans s6)) ⟨t5, w, rfl, aq, s6 _ _ hw⟩) (s6 _ _ (s5 _ _ bC)), fun y hy => ?_, by rw [List.length_append, List.length_singleton, hlen]⟩
     rcases List.mem_append.mp hy with h | h
     ·exact hk y h
     ·obtain rfl : y = (("at", p, lo, hi) : Pa) := by simpa using h
      exact (eY (show ("at" : Str) ≠ "step" by decide)).mpr ⟨rfl, by dsimp only; omega, by dsimp only; omega⟩
   ·rintro σ H3 h
    exact hN _ _ ⟨n, h, Bf⟩
  rintro σ H4 ⟨n, ⟨xs, ps, _, _, _, _, _, _, rfl, s4, rN, hP, hk, hlen⟩, Bf⟩
  walk_at "gzn"
  exact q l xs ps H4 s4 b0 rN hP hk (by omega)
end
section
seal L2.PE L2.PS L2.bg L2.PA
variable {P : Program} {w : World} {K : PySem.W.Frag} {mg : Str -> Option Value} {base : Heap}
noncomputable def oO (H : Hp) (v : V) (k : Str × Int) : Prop := ∃ p, v = .ref p /\ H p = some (.tup [.str k.1, .int k.2])
theorem oO.same {H H' : Hp} {v : V} {k : Str × Int} (h : oO H v k) (s : aw H H') : oO H' v k := let ⟨p, e, a⟩ := h; ⟨p, e, s _ _ a⟩
noncomputable def xn (t : Int) : List (Str × Int) := [("on", 0), ("at", -1), ("at", t), ("step", -1), ("step", t - 1), ("step", t)]
noncomputable def xo (t fr : Int) : List (Str × Int) := [("", 0), ("at", t + fr), ("at", -1 - fr), ("steps", 0)]
theorem T5 {t fr : Int} (ht : 1 <= t) (hf : 0 <= fr) : ∀ k ∈ xn t ++ xo t fr, hasB t k.1 k.2 = false := by
 intro k hk
 simp only [xn, xo, List.cons_append, List.nil_append, List.mem_cons, List.not_mem_nil, or_false] at hk
 refine Bool.eq_false_iff.mpr fun h => ?_
 rcases hk with rfl | rfl | rfl | rfl | rfl | rfl | rfl | rfl | rfl | rfl
 ·exact absurd ((eY (by decide)).mp h).1 (by decide)
 ·have := ((eY (show ("at" : Str) ≠ "step" by decide)).mp h).2; dsimp only at this; omega
 ·have := ((eY (show ("at" : Str) ≠ "step" by decide)).mp h).2; dsimp only at this; omega
 ·have := lY.mp h; omega
 ·have := lY.mp h; omega
 ·have := lY.mp h; omega
 ·exact absurd ((eY (by decide)).mp h).1 (by decide)
 ·have := ((eY (show ("at" : Str) ≠ "step" by decide)).mp h).2; dsimp only at this; omega
 ·have := ((eY (show ("at" : Str) ≠ "step" by decide)).mp h).2; dsimp only at this; omega
 ·exact absurd ((eY (by decide)).mp h).1 (by decide)
noncomputable def T6 (K : PySem.W.Frag) : Sp := fun vs H Q _ => ∃ (a b cl : Addr) (ns : List Int) (e t u d m f : Int) (xs : List V) (ps : List Pa), vs = [.ref a, .ref b, .ref cl] /\ ah K H a (ns.map V.int) /\ eW ns /\ ah K H b (jS e t u d m f) /\ jR e t u d m f /\ H cl = some (.lst xs) /\ bX H xs ps /\ ps.length <= 64 /\ ∀ (l : Addr) (ys : List V) (qs : List Pa) (H' : Hp), aw H H' -> H l = none -> H' l = some (.lst ys) -> bX H' ys qs -> ¬ di t qs -> qs.length <= 65 -> Q (.ref l) H'
theorem T7 (T : Tx K mg) : aJ P w K mg base (aK P w) 3 T.jB T.wR ["_law_script", "_law_shape_here", "_law_claim"] (T6 K) := by
 refine okN T.oE iC (fun vs H Q E h => ?_) (fun aI A outer s H vs Q E hr h => ?_)
 ·obtain ⟨a, b, cl, ns, e, t, u, d, m, f, xs, ps, rfl, _⟩ := h
  rfl
 ·obtain ⟨a, b, cl, ns, e, t, u, d, m, f, xs, ps, rfl, hS, hn, hb, sh, hX, hP, acy, q⟩ := h
  refine ⟨_, (aj (az (i := 3) iC.nd rfl (Or.inl rfl) (ak ao (pv 1) ae (fun _ _ => rfl)))
  (aj (az (i := 4) iC.nd rfl (Or.inl rfl) (aE (xb T) (hr.mono (by decide)) rfl T.rF T.gL.kp T.kK .nil aC (aa (pv 0) (aa ae (aa (aA lB ae ae) af)))))
  (aj (az (i := 5) iC.nd rfl (Or.inl rfl) (cN (aa (aY (aa bq (aa ae af))) (aa (aY (aa bq (aa (dw dz ae) af))) (aa (aY (aa bq (aa (pv 3) af))) (aa (aY (aa bq (aa (dw dz ae) af))) (aa (aY (aa bq (aa (aA cU (pv 3) ae) af))) (aa (aY (aa bq (aa (pv 3) af))) af))))))))
  (aj (az (i := 5) iC.nd rfl (Or.inl rfl) (aA lI (pv 5) (cN (aa (aY (aa bq (aa ae af))) (aa (aY (aa bq (aa (aA a5 (pv 3) (pv 4)) af))) (aa (aY (aa bq (aa (aA cU (dw dz ae) (pv 4)) af))) (aa (aY (aa bq (aa ae af))) af)))))))
  (aj (ph (ak ao (pv 5) (aE (bY T) (hr.mono (by decide)) rfl T.bT T.bG.kp T.bO .nil aC (aa (pv 0) (aa ae (aa ae af)))) (fun _ _ => rfl)) (d8 (n := 2) rfl (bE (bc (i := 6) iC.nd rfl (Or.inl rfl)) (bE (bc (i := 7) iC.nd rfl (Or.inl rfl)) d0))))
  (aj (az (i := 8) iC.nd rfl (Or.inl rfl) (aE (bY T) (hr.mono (by decide)) rfl T.bT T.bG.kp T.bO .nil aC (aa (pv 0) (aa ae (aa (aA a5 (a6 cD (by rfl) T.cz cE (aa (pv 2) af)) ae) af)))))
  (av (aG (aA lI (aA lI (pW yV (pv 2) pS (pU (pv 8))) (cN (aa (aY (aa (pv 6) (aa (pv 7) (aa (aY (aa (pv 7) (aa bA af))) af)))) af))) (pW yV (pv 2) (pU (pv 8)) pS)))))))))), ?_⟩
  have t1 := sh.ht
  refine a7 (fun σ H1 => σ = [some (.ref a), some (.ref b), some (.ref cl), some (.int t), none, none, none, none, none] /\ H1 = H) (fun N hN => ?_) ?_
  ·walk_at "gzn"
   exact aL hb (v := .int t) rfl (hN _ _ ⟨rfl, rfl⟩)
  rintro σ H1 ⟨rfl, rfl⟩
  refine a7 (fun σ H2 => ∃ fr : Int, σ = [some (.ref a), some (.ref b), some (.ref cl), some (.int t), some (.int fr), none, none, none, none] /\ H2 = H1 /\ 0 <= fr) (fun N hN => ?_) ?_
  ·walk_at "gzn"
   exact ⟨⟨by decide, by decide, by decide⟩, a, ns, _, _, rfl, hS, hn, by decide, by decide, fun p p1 p2 => hN _ _ ⟨p, rfl, rfl, p1⟩⟩
  rintro σ H2 ⟨fr, rfl, rfl, f0⟩
  refine a7 (fun σ H3 => ∃ l ys, σ = [some (.ref a), some (.ref b), some (.ref cl), some (.int t), some (.int fr), some (.ref l), none, none, none] /\ aw H2 H3 /\ H3 l = some (.lst ys) /\ ay (oO H3) ys (xn t)) (fun N hN => ?_) ?_
  ·walk_at "gzn"
   refine ⟨bo, fun p1 h1 => ⟨bo, fun p2 h2 => ⟨bo, fun p3 h3 => ⟨bo, fun p4 h4 => ⟨bo, fun p5 h5 => ⟨bo, fun p6 h6 => ⟨by decide, fun lz Bg => ?_⟩⟩⟩⟩⟩⟩⟩
   have w1 := au (o := .tup [.str "on", .int (0)]) h1
   have w2 := au (o := .tup [.str "at", .int (-1)]) h2
   have w3 := au (o := .tup [.str "at", .int (t)]) h3
   have w4 := au (o := .tup [.str "step", .int (-1)]) h4
   have w5 := au (o := .tup [.str "step", .int (t - 1)]) h5
   have w6 := au (o := .tup [.str "step", .int (t)]) h6
   have w7 := au (o := .lst [.ref p1, .ref p2, .ref p3, .ref p4, .ref p5, .ref p6]) Bg
   have c7 := w7
   have c6 := w6.trans c7
   have c5 := w5.trans c6
   have c4 := w4.trans c5
   have c3 := w3.trans c4
   have c2 := w2.trans c3
   have c1 := w1.trans c2
   exact hN _ _ ⟨lz, _, rfl, c1, aq, ⟨⟨p1, rfl, c2 _ _ aq⟩, ⟨p2, rfl, c3 _ _ aq⟩, ⟨p3, rfl, c4 _ _ aq⟩, ⟨p4, rfl, c5 _ _ aq⟩, ⟨p5, rfl, c6 _ _ aq⟩, ⟨p6, rfl, c7 _ _ aq⟩, trivial⟩⟩
  rintro σ H3 ⟨l, ys, rfl, s3, hl, hY⟩
  refine a7 (fun σ H4 => ∃ l ys, σ = [some (.ref a), some (.ref b), some (.ref cl), some (.int t), some (.int fr), some (.ref l), none, none, none] /\ aw H3 H4 /\ H4 l = some (.lst ys) /\ ay (oO H4) ys (xn t ++ xo t fr)) (fun N hN => ?_) ?_
  ·walk_at "gzn"
   refine ⟨bo, fun p1 h1 => ⟨bo, fun p2 h2 => ⟨bo, fun p3 h3 => ⟨bo, fun p4 h4 => ⟨by decide, fun lz Bg => ?_⟩⟩⟩⟩⟩
   have w1 := au (o := .tup [.str "", .int (0)]) h1
   have w2 := au (o := .tup [.str "at", .int (t + fr)]) h2
   have w3 := au (o := .tup [.str "at", .int (-1 - fr)]) h3
   have w4 := au (o := .tup [.str "steps", .int (0)]) h4
   have w5 := au (o := .lst [.ref p1, .ref p2, .ref p3, .ref p4]) Bg
   have c5 := w5
   have c4 := w4.trans c5
   have c3 := w3.trans c4
   have c2 := w2.trans c3
   have c1 := w1.trans c2
   have K2 : ay (oO _) [.ref p1, .ref p2, .ref p3, .ref p4] (xo t fr) := ⟨⟨p1, rfl, c2 _ _ aq⟩, ⟨p2, rfl, c3 _ _ aq⟩, ⟨p3, rfl, c4 _ _ aq⟩, ⟨p4, rfl, c5 _ _ aq⟩, trivial⟩
   have yl : ys.length = 6 := hY.len
   refine ⟨ys, c1 _ _ hl, _, aq, Nat.le_trans (by show ys.length + 4 <= 30; omega) (by decide), fun l2 bV => ?_⟩
   have w6 := au (o := .lst (ys ++ [.ref p1, .ref p2, .ref p3, .ref p4])) bV
   exact hN _ _ ⟨l2, _, rfl, c1.trans w6, aq, ((hY.imp fun _ _ r => r.same (c1.trans w6))).app (K2.imp fun _ _ r => r.same w6)⟩
  rintro σ H4 ⟨l, ys, rfl, s4, hl, hY⟩
  refine a7 (fun σ H5 => ∃ (kd : Str) (tr : Int), σ = [some (.ref a), some (.ref b), some (.ref cl), some (.int t), some (.int fr), some (.ref l), some (.str kd), some (.int tr), none] /\ H5 = H4 /\ hasB t kd tr = false) (fun N hN => ?_) ?_
  ·walk_at "gzn"
   refine ⟨a, ns, _, _, rfl, (s3.trans s4).seq hS, hn, by omega, by omega, fun p p1 p2 => ?_⟩
   have yl : ys.length = 10 := hY.len
   obtain ⟨v, k, hkm, hv, pk, rfl, hpk⟩ := PV hY p1 (by show p < 10; omega)
   refine aL (ah.of hl) hv ?_
   exact km (ai.of hpk) (hN _ _ ⟨k.1, k.2, rfl, rfl, T5 t1.1 f0 k hkm⟩)
  rintro σ H5 ⟨kd, tr, rfl, rfl, hbad⟩
  have S5 := s3.trans s4
  have xl := hP.len
  refine a7 (fun σ H6 => ∃ n : Nat, σ = [some (.ref a), some (.ref b), some (.ref cl), some (.int t), some (.int fr), some (.ref l), some (.str kd), some (.int tr), some (.int (n : Int))] /\ H6 = H5 /\ n <= ps.length) (fun N hN => ?_) ?_
  ·walk_at "gzn"
   refine ⟨_, dg (ah.of (S5 _ _ hX)), ?_⟩
   refine ⟨a, ns, _, _, rfl, S5.seq hS, hn, by omega, by omega, fun p p1 p2 => ?_⟩
   exact hN _ _ ⟨p.toNat, by rw [show ((p.toNat : Nat) : Int) = p by omega], rfl, by omega⟩
  rintro σ H6 ⟨n, rfl, rfl, hnl⟩
  walk_at "gzn"
  refine ⟨xs, ah.of (S5 _ _ hX), fun q1 h1 => ?_⟩
  rw [Pk]
  refine ⟨bo, fun q2 h2 => ⟨by decide, fun q3 h3 => ⟨by decide, fun q4 h4 => ?_⟩⟩⟩
  have u1 := au (o := .lst (xs.take n)) h1
  have u2 := au (o := .tup [.int tr, .non]) h2
  have u3 := au (o := .tup [.str kd, .int tr, .ref q2]) h3
  have u4 := au (o := .lst [.ref q3]) h4
  have tl : (xs.take n).length <= 64 := by rw [List.length_take]; omega
  refine ⟨xs.take n, (u2.trans (u3.trans u4)) _ _ aq, [.ref q3], aq, Nat.le_trans (by show (xs.take n).length + 1 <= 100; omega) (by decide), fun q5 h5 => ?_⟩
  have u5 := au (o := .lst (xs.take n ++ [.ref q3])) h5
  have U5 := u1.trans (u2.trans (u3.trans (u4.trans u5)))
  refine ⟨xs, ah.of (U5 _ _ (S5 _ _ hX)), fun q6 h6 => ?_⟩
  rw [Hv]
  have u6 := au (o := .lst (xs.drop n)) h6
  have dl : (xs.drop n).length <= 64 := by rw [List.length_drop]; omega
  refine ⟨_, u6 _ _ aq, xs.drop n, aq, Nat.le_trans (by rw [List.length_append]; show (xs.take n).length + 1 + (xs.drop n).length <= 200; omega) (by decide), fun q7 h7 => ?_⟩
  have u7 := au (o := .lst (xs.take n ++ [.ref q3] ++ xs.drop n)) h7
  have W := U5.trans (u6.trans u7)
  have W3 := u4.trans (u5.trans (u6.trans u7))
  have KR := hP.same (S5.trans W)
  refine q q7 _ (ps.take n ++ [((kd, tr, (some tr, none)) : Pa)] ++ ps.drop n) _ (S5.trans W) ((S5.trans (U5.trans u6)).free h7) aq (((ay.take n KR).snoc ⟨q3, q2, rfl, W3 _ _ aq, (u3.trans W3) _ _ aq⟩).app (ay.drop n KR)) (fun zz => ?_) (by rw [List.length_append, List.length_append, List.length_take, List.length_drop]; show _ + 1 + _ <= 65; omega)
  have h9 := zz ((kd, tr, (some tr, none)) : Pa) (List.mem_append_left _ (List.mem_append_right _ (.head _)))
  rw [hbad] at h9
  cases h9
end
section
seal L2.PE L2.PS L2.bg L2.PA
variable {P : Program} {w : World} {K : PySem.W.Frag} {mg : Str -> Option Value} {base : Heap}
noncomputable def Bh (cs : List Int) (k : Str) (t : Int) : Prop := 0 <= t /\ t < (cs.length : Int) /\ (k = "step" -> t + 1 < (cs.length : Int))
theorem T8 {ps : List Pa} {i : Nat} {p : Pa} {k : Str} {t : Int} (h : ps[i]? = some p) : sel (ps.take (i + 1)) k t = sel (ps.take i) k t ++ (if fU k t p = true then [p.2.2] else []) := by
 unfold sel
 rw [List.take_succ, h, List.filter_append, List.map_append]
 congr 1
 simp only [Option.toList_some, List.filter_cons, List.filter_nil]
 split <;> rfl
theorem T9 (e : S2) (ss : List S2) (s : S2) : bh e (ss ++ [s]) = (cv (bh e ss).1 s.1, cw (bh e ss).2 s.2) := by
 unfold bh
 rw [List.foldl_append]
 rfl
noncomputable def Ua (K : PySem.W.Frag) : Sp := fun vs H Q _ => ∃ (lo hi : En) (b : Addr) (xs : List V) (ps : List Pa) (k : Str) (t : Int), vs = [ev lo, ev hi, .ref b, .str k, .int t] /\ ah K H b xs /\ bX H xs ps /\ ps.length <= 1000 /\ ∀ v H', aw H H' -> bN H' v (cF (lo, hi) (sel ps k t)) -> Q v H'
noncomputable def xp (H : Hp) (lo hi : En) (b : Addr) (ps : List Pa) (k : Str) (t : Int) (i : Nat) (σ : St) (H1 : Hp) : Prop := ∃ (e1 e2 e3 : Option V), σ = [some (ev (bh (lo, hi) (sel (ps.take i) k t)).1), some (ev (bh (lo, hi) (sel (ps.take i) k t)).2), some (.ref b), some (.str k), some (.int t), e1, e2, e3] /\ H1 = H
theorem KS (T : Tx K mg) : aJ P w K mg base (aK P w) 1 T.jm T.wk ["_law_lo", "_law_hi", "_law_claim", "_law_kind", "_law_turn"] (Ua K) := by
 refine okN T.kL nC (fun vs H Q E h => ?_) (fun aI A outer s H vs Q E hr h => ?_)
 ·obtain ⟨lo, hi, b, xs, ps, k, t, rfl, _⟩ := h
  rfl
 ·obtain ⟨lo, hi, b, xs, ps, k, t, rfl, hX, hP, hn, q⟩ := h
  refine ⟨_, (aj (cI PassesOwn.never rfl (ec (pv 2)) (d8 rfl (bE (bc (i := 5) nC.nd rfl (Or.inl rfl)) (bE (bc (i := 6) nC.nd rfl (Or.inl rfl)) (bE (bc (i := 7) nC.nd rfl (Or.inl rfl)) d0)))) (av (aN (PW.pt (du (aX bJ (pv 5) (pv 3) (aR _)) (dZ (aX bJ (pv 6) (pv 4) (aR _))))) (aj (aN (PW.pt (du (bp (cC (ak ao (pv 7) ae (fun _ _ => rfl)))) (dZ (PW.pt (cG (bp (bZ (pv 0))) (dc (aX fm (ak ao (pv 7) ae (fun _ _ => rfl)) (pv 0) (aR _)))))))) (av (az (i := 0) nC.nd rfl (Or.inl rfl) (ak ao (pv 7) ae (fun _ _ => rfl)))) aO)
   (av (aN (PW.pt (du (bp (cC (ak ao (pv 7) ae (fun _ _ => rfl)))) (dZ (PW.pt (cG (bp (bZ (pv 1))) (dc (aX fP (ak ao (pv 7) ae (fun _ _ => rfl)) (pv 1) (aR _)))))))) (av (az (i := 1) nC.nd rfl (Or.inl rfl) (ak ao (pv 7) ae (fun _ _ => rfl)))) aO))) aO)))
  (aj (aN (PW.pt (du (bp (cC (pv 0))) (du (bp (cC (pv 1))) (dZ (aX fm (pv 0) (pv 1) (aR _)))))) (av (aG bA)) aO)
  (av (aG (aY (aa (pv 0) (aa (pv 1) af))))))), ?_⟩
  have hl := hP.len
  refine a7 (xp H lo hi b ps k t xs.length) (fun N hN => ?_) ?_
  ·walk_at "gzn"
   refine ⟨⟨_, hX⟩, g8 (xs := xs) (xp H lo hi b ps k t) ⟨_, _, _, rfl, rfl⟩ ?_ ?_ ?_⟩
   ·rintro i σ H1 _ ⟨_, _, _, _, rfl⟩
    exact hX
   ·rintro i x σ H1 hx ⟨e1, e2, e3, rfl, rfl⟩
    obtain ⟨p, hp, tp, sp, rfl, h1, h2⟩ := hP.get hx
    refine uw (ai.of h1) ?_
    have es := T8 (k := k) (t := t) hp
    walk_at "gzn"
    try refine ⟨rfl, ?_⟩
    have skip : fU k t p = false -> xp H1 lo hi b ps k t (i + 1) [some (ev (bh (lo, hi) (sel (ps.take i) k t)).1), some (ev (bh (lo, hi) (sel (ps.take i) k t)).2), some (.ref b), some (.str k), some (.int t), some (.str p.1), some (.int p.2.1), some (.ref sp)] H1 := fun hz => ⟨_, _, _, by rw [es, hz, if_neg (by simp), List.append_nil], rfl⟩
    by_cases hk : p.1 = k
    ·rw [if_pos (by rw [hk])]
     refine bz (fun ht => ?_) fun ht => ?_
     ·have hz : fU k t p = true := by
       unfold fU
       rw [decide_eq_true hk, decide_eq_true ht]; rfl
      rw [hz, if_pos rfl] at es
      have fin : xp H1 lo hi b ps k t (i + 1) [some (ev (cv (bh (lo, hi) (sel (ps.take i) k t)).1 p.2.2.1)), some (ev (cw (bh (lo, hi) (sel (ps.take i) k t)).2 p.2.2.2)), some (.ref b), some (.str k), some (.int t), some (.str p.1), some (.int p.2.1), some (.ref sp)] H1 := ⟨_, _, _, by rw [es, T9], rfl⟩
      generalize (bh (lo, hi) (sel (ps.take i) k t)).1 = x at fin ⊢
      generalize (bh (lo, hi) (sel (ps.take i) k t)).2 = y at fin ⊢
      obtain ⟨pk, pt, pa, pc⟩ := p
      dsimp only at fin h2 ⊢
      rcases pa with _ | pa <;> rcases pc with _ | pc <;> rcases x with _ | x <;> rcases y with _ | y
      all_goals repeat' first
       | exact fin
       | refine aF (ai.of h2) rfl ?_
       | (walk_at "gzp")
       | (refine bz (fun hc => ?_) fun hc => ?_)
      all_goals (simp only [cv, cw] at fin; repeat' split at fin)
      all_goals first | exact fin | (exfalso; omega)
     ·refine skip ?_
      unfold fU
      rw [decide_eq_false ht, Bool.and_false]
    ·rw [if_neg fun z => hk (V.str.inj z)]
     refine skip ?_
     unfold fU
     rw [decide_eq_false hk, Bool.false_and]
   ·rintro σ H1 h
    exact hN _ _ h
  rintro σ H1 ⟨e1, e2, e3, rfl, rfl⟩
  rw [hl, List.take_length]
  walk_at "gzn"
  unfold cF at q
  generalize bh (lo, hi) (sel ps k t) = z at q ⊢
  refine OT (fun hc => ?_) fun hc => ?_
  ·rw [if_pos hc] at q
   exact q _ _ (aw.refl _) rfl
  ·rw [if_neg (by rw [hc]; simp)] at q
   exact ⟨bo, fun p hp => q _ _ (au hp) ⟨p, rfl, aq⟩⟩
noncomputable def Ub (K : PySem.W.Frag) : Sp := fun vs H Q _ => ∃ (p : Addr) (lo hi : En) (n : Int), vs = [.ref p, .int n] /\ ai K H p [ev lo, ev hi] /\ Q (.bl (hold lo hi n)) H
theorem Uc (T : Tx K mg) : aJ P w K mg base (aK P w) 1 T.jh T.wb ["_law_span", "_law_number"] (Ub K) := by
 refine okN T.og RE (fun vs H Q E h => ?_) (fun aI A outer s H vs Q E hr h => ?_)
 ·obtain ⟨p, lo, hi, n, rfl, _⟩ := h
  rfl
 ·obtain ⟨p, lo, hi, n, rfl, hp, q⟩ := h
  refine ⟨_, (aj (aN (PW.pt (du (bp (cC (ak ao (pv 0) ae (fun _ _ => rfl)))) (dZ (aX fP (pv 1) (ak ao (pv 0) ae (fun _ _ => rfl)) (aR _))))) (av (aG cT)) aO)
  (av (aG (Mj (oW (bZ (ak ao (pv 0) ae (fun _ _ => rfl)))) (fL (eJ fk (pv 1) (ak ao (pv 0) ae (fun _ _ => rfl)) (aR _))))))), ?_⟩
  rcases lo with _ | lo <;> rcases hi with _ | hi
  all_goals simp only [ig, ij] at hp
  all_goals
   walk_at "gzn"
   repeat' first
   | refine aF hp rfl ?_
   | (walk_at "gzp")
   | (refine bz (fun hc => ?_) fun hc => ?_)
  all_goals first
   | exact q
   | (rw [OO _ hc] at q; exact q)
   | (rw [Hf _ hc] at q; exact q)
   | (rw [He] at q; exact q)
   | (rw [Hf _ hc, He] at q; exact q)
noncomputable def Ud (K : PySem.W.Frag) : Sp := fun vs H Q _ => ∃ (a b : Addr) (cs : List Int) (xs : List V) (ps : List Pa), vs = [.ref a, .ref b] /\ ah K H a (cs.map V.int) /\ ah K H b xs /\ bX H xs ps /\ (∀ p ∈ ps, Bh cs p.1 p.2.1) /\ Q (.bl (gG cs ps)) H
noncomputable def Ue (H : Hp) (a b : Addr) (cs : List Int) (ps : List Pa) (i : Nat) (σ : St) (H1 : Hp) : Prop := ∃ (e1 e2 e3 e4 : Option V), σ = [some (.ref a), some (.ref b), e1, e2, e3, e4] /\ H1 = H /\ gG cs (ps.take i) = true
theorem Ug {cs : List Int} {ps : List Pa} {p : Pa} (h : p ∈ ps) (hf : hold p.2.2.1 p.2.2.2 (fV cs p.1 p.2.1) = false) : gG cs ps = false := by
 unfold gG
 exact List.all_eq_false.mpr ⟨p, h, by rw [hf]; simp⟩
theorem KU {cs : List Int} {ps : List Pa} {p : Pa} {i : Nat} (h : ps[i]? = some p) (ht : gG cs (ps.take i) = true) (hf : hold p.2.2.1 p.2.2.2 (fV cs p.1 p.2.1) = true) : gG cs (ps.take (i + 1)) = true := by
 unfold gG at *
 rw [List.take_succ, h, List.all_append, ht]
 simp [hf]
theorem Uh (T : Tx K mg) : aJ P w K mg base (aK P w) 2 T.jr T.wy ["_law_course_here", "_law_claim"] (Ud K) := by
 refine okN T.oq nD (fun vs H Q E h => ?_) (fun aI A outer s H vs Q E hr h => ?_)
 ·obtain ⟨a, b, cs, xs, ps, rfl, _⟩ := h
  rfl
 ·obtain ⟨a, b, cs, xs, ps, rfl, hS, hX, hP, hk, q⟩ := h
  refine ⟨_, (aj (cI PassesOwn.never rfl (ec (pv 1)) (d8 rfl (bE (bc (i := 2) nD.nd rfl (Or.inl rfl)) (bE (bc (i := 3) nD.nd rfl (Or.inl rfl)) (bE (bc (i := 4) nD.nd rfl (Or.inl rfl)) d0)))) (aj (az (i := 5) nD.nd rfl (Or.inl rfl) (ak ao (pv 0) (pv 3) (fun _ _ => rfl)))
   (aj (aN (aX bJ (pv 2) bq (aR _)) (av (az (i := 5) nD.nd rfl (Or.inl rfl) (aA cU (ak ao (pv 0) (aA a5 (pv 3) ae) (fun _ _ => rfl)) (pv 5)))) aO)
   (av (aN (dI (dY (aE (Uc T) (hr.mono (by decide)) rfl T.Ji T.og.kp T.wc .nil aC (aa (pv 4) (aa (pv 5) af))))) (av (aG cT)) aO)))))
  (av (aG cT))), ?_⟩
  have hl := hP.len
  walk_at "gzn"
  refine ⟨⟨_, hX⟩, g8 (xs := xs) (Ue H a b cs ps) ⟨_, _, _, _, rfl, rfl, rfl⟩ ?_ ?_ ?_⟩
  ·rintro i σ H1 _ ⟨_, _, _, _, _, rfl, _⟩
   exact hX
  ·rintro i x σ H1 hx ⟨e1, e2, e3, e4, rfl, rfl, hm⟩
   obtain ⟨p, hp, tp, sp, rfl, h1, h2⟩ := hP.get hx
   have Ui := hk p (List.mem_of_getElem? hp)
   obtain ⟨o1, o2, o3⟩ := id Ui
   refine uw (ai.of h1) ?_
   walk_at "gzn"
   refine aL hS (int_at o1 o2) ?_
   walk_at "gzn"
   try refine ⟨rfl, ?_⟩
   have fin : hold p.2.2.1 p.2.2.2 (fV cs p.1 p.2.1) = false -> Q (V.bl false) H1 := fun hf => by
    rw [Ug (List.mem_of_getElem? hp) hf] at q
    exact q
   by_cases hs : p.1 = "step"
   ·rw [if_pos (by rw [hs])]
    have en : fV cs p.1 p.2.1 = cs.getD (p.2.1 + 1).toNat 0 - cs.getD p.2.1.toNat 0 := if_pos hs
    refine aL hS (int_at (by omega) (o3 hs)) ?_
    walk_at "gzn"
    rw [<- en]
    refine ⟨sp, _, _, _, rfl, ai.of h2, _, rfl, bz (fun hc => fin hc) fun hc => ⟨_, _, _, _, rfl, rfl, KU hp hm (by simpa using hc)⟩⟩
   ·rw [if_neg fun z => hs (V.str.inj z)]
    have en : fV cs p.1 p.2.1 = cs.getD p.2.1.toNat 0 := if_neg hs
    rw [<- en]
    refine ⟨sp, _, _, _, rfl, ai.of h2, _, rfl, bz (fun hc => fin hc) fun hc => ⟨_, _, _, _, rfl, rfl, KU hp hm (by simpa using hc)⟩⟩
  ·rintro σ H1 ⟨e1, e2, e3, e4, rfl, rfl, hm⟩
   rw [hl, List.take_length] at hm
   rw [hm] at q
   walk_at "gzn"
   exact q
end
section
seal L2.PE L2.PS L2.bg L2.PA
variable {P : Program} {w : World} {K : PySem.W.Frag} {mg : Str -> Option Value} {base : Heap}
noncomputable def Uj (K : PySem.W.Frag) : Sp := fun vs H Q _ => ∃ (b c : Addr) (e t u d m f : Int) (xs : List V) (ps : List Pa), vs = [.ref b, .ref c] /\ ah K H b (jS e t u d m f) /\ jR e t u d m f /\ ah K H c xs /\ bX H xs ps /\ ps.length <= 900 /\ ∀ l ys H', aw H H' -> H l = none -> H' l = some (.lst ys) -> ay (bN H') ys (c9 u d ps (t - 1).toNat) -> Q (.ref l) H'
theorem Uk (T : Tx K mg) : aJ P w K mg base (aK P w) 2 T.jn T.wm ["_law_shape_here", "_law_claim"] (Uj K) := by
 refine okN T.oi RG (fun vs H Q E h => ?_) (fun aI A outer s H vs Q E hr h => ?_)
 ·obtain ⟨b, c, e, t, u, d, m, f, xs, ps, rfl, _⟩ := h
  rfl
 ·obtain ⟨b, c, e, t, u, d, m, f, xs, ps, rfl, hb, sh, hX, hP, hn, q⟩ := h
  refine ⟨_, (av (aG (eU (cP.mk (fr := [1, 0]) (ys := ["_law_claim", "_law_shape_here"]) rfl (by decide +kernel) rfl (by decide +kernel) rfl rfl (.cons rfl (.cons rfl .nil)) (.cons rfl rfl rfl rfl (.cons rfl rfl rfl rfl .nil)) (by decide) rfl) rfl (fh rfl T.dS (aa (aA cU (ak ao (pv 0) ae (fun _ _ => rfl)) ae) af)) (fun C s2 H2 ex pn => ⟨gE, (aE (KS T) (hr.mono (by decide)) rfl T.AF T.kL.kp T.rG .nil aC (aa (dw dz (ak (fv (K := K) rfl) (pv 2) ae (fun _ _ => rfl))) (aa (ak (fv (K := K) rfl) (pv 2) ae (fun _ _ => rfl)) (aa (pv 1) (aa bq (aa (pv 0) af))))))⟩)))), ?_⟩
  have t1 := sh.ht
  walk_at "gzn"
  refine aL hb (v := .int t) rfl ?_
  walk_at "gzn"
  refine ⟨by omega, by omega, eV kl (by rw [List.length_map, List.length_range]; exact Nat.le_trans (by omega : _ <= 12) (by decide)) (il (R := fun _ x (k : Nat) => x = V.int ((0 : Int) + k)) (R' := bN) (f := fun (k : Nat) => cF (none, none) ((some (-d), some u) :: sel ps "step" (k : Int))) (fun _ _ _ _ _ h => h) (fun _ _ _ _ s' h => h.same s') (ay.eG _) (bs := []) trivial (fun _ _ => trivial) (fun x k _ H2 s2 r Q h => ?_) (fun x k _ H2 s2 r Q h => ?_) fun H2 zs s2 hz => ?_)⟩
  ·walk_at "gz"
   exact h
  ·subst r
   walk_at "gz"
   refine aL (s2.seq hb) (v := .int d) rfl ?_
   walk_at "gz"
   refine aL (s2.seq hb) (v := .int u) rfl ?_
   refine ⟨some (-d), some u, c, xs, ps, "step", _, rfl, s2.seq hX, hP.same s2, by omega, fun v H3 s3 hv => h _ _ s3 ?_⟩
   rw [Int.zero_add] at hv
   exact hv
  ·intro l hl
   refine q l zs _ (s2.trans (au hl)) (s2.free hl) aq ?_
   rw [List.nil_append] at hz
   exact hz.imp fun _ _ r => r.same (au hl)
noncomputable def Ul (K : PySem.W.Frag) : Sp := fun vs H Q _ => ∃ (b c : Addr) (e t u d m f : Int) (xs : List V) (ps : List Pa), vs = [.ref b, .ref c] /\ ah K H b (jS e t u d m f) /\ jR e t u d m f /\ ah K H c xs /\ bX H xs ps /\ ps.length <= 900 /\ ∀ l ys H', aw H H' -> H l = none -> H' l = some (.lst ys) -> ay (bN H') ys (da ps t.toNat) -> Q (.ref l) H'
theorem Um (T : Tx K mg) : aJ P w K mg base (aK P w) 2 T.jo T.wq ["_law_shape_here", "_law_claim"] (Ul K) := by
 refine okN T.oj RH (fun vs H Q E h => ?_) (fun aI A outer s H vs Q E hr h => ?_)
 ·obtain ⟨b, c, e, t, u, d, m, f, xs, ps, rfl, _⟩ := h
  rfl
 ·obtain ⟨b, c, e, t, u, d, m, f, xs, ps, rfl, hb, sh, hX, hP, hn, q⟩ := h
  refine ⟨_, (av (aG (eU (cP.mk (fr := [1]) (ys := ["_law_claim"]) rfl (by decide +kernel) rfl (by decide +kernel) rfl rfl (.cons rfl .nil) (.cons rfl rfl rfl rfl .nil) (by decide) rfl) rfl (fh rfl T.dS (aa (ak ao (pv 0) ae (fun _ _ => rfl)) af)) (fun C s2 H2 ex pn => ⟨gE, (aE (KS T) (hr.mono (by decide)) rfl T.AF T.kL.kp T.rG .nil aC (aa bA (aa bA (aa (pv 1) (aa bq (aa (pv 0) af))))))⟩)))), ?_⟩
  have t1 := sh.ht
  walk_at "gzn"
  refine aL hb (v := .int t) rfl ?_
  walk_at "gzn"
  refine ⟨by omega, by omega, eV kl (by rw [List.length_map, List.length_range]; exact Nat.le_trans (by omega : _ <= 12) (by decide)) (il (R := fun _ x (k : Nat) => x = V.int ((0 : Int) + k)) (R' := bN) (f := fun (k : Nat) => cF (none, none) (sel ps "at" (k : Int))) (fun _ _ _ _ _ h => h) (fun _ _ _ _ s' h => h.same s') (ay.eG _) (bs := []) trivial (fun _ _ => trivial) (fun x k _ H2 s2 r Q h => ?_) (fun x k _ H2 s2 r Q h => ?_) fun H2 zs s2 hz => ?_)⟩
  ·walk_at "gz"
   exact h
  ·subst r
   walk_at "gz"
   refine ⟨none, none, c, xs, ps, "at", _, rfl, s2.seq hX, hP.same s2, by omega, fun v H3 s3 hv => h _ _ s3 ?_⟩
   rw [Int.zero_add] at hv
   exact hv
  ·intro l hl
   refine q l zs _ (s2.trans (au hl)) (s2.free hl) aq ?_
   rw [List.nil_append] at hz
   exact hz.imp fun _ _ r => r.same (au hl)
noncomputable def Uo (K : PySem.W.Frag) : Sp := fun vs H Q _ => ∃ (a : Addr) (xs : List V) (ps : List P2) (i j : Nat), vs = [.ref a, .int i, .int j] /\ ah K H a xs /\ dO H xs ps /\ ps.length <= 1000 /\ i <= ps.length /\ j <= ps.length /\ Q (.int (cK ps i j)) H
noncomputable def Up (H : Hp) (a : Addr) (ps : List P2) (i j k : Nat) (σ : St) (H1 : Hp) : Prop := ∃ (e : Option V), σ = [some (.ref a), some (.int i), some (.int j), some (.int (part ps i j k)), e] /\ H1 = H
theorem Uq (T : Tx K mg) : aJ P w K mg base (aK P w) 1 T.ju T.wC ["_law_steps_here", "_law_one", "_law_other"] (Uo K) := by
 refine okN T.ou rf (fun vs H Q E h => ?_) (fun aI A outer s H vs Q E hr h => ?_)
 ·obtain ⟨a, xs, ps, i, j, rfl, _⟩ := h
  rfl
 ·obtain ⟨a, xs, ps, i, j, rfl, hS, hP, hn, hi, hj, q⟩ := h
  refine ⟨_, (aj (az (i := 3) rf.nd rfl (Or.inl rfl) ae)
  (aj (cI PassesOwn.never rfl (Mt rfl T.dS (aa (a6 (sy rfl) (by rfl) T.kN lK (aa (pv 1) (aa (pv 2) af))) (aa (a6 (Mz rfl) (by rfl) T.AI GI (aa (pv 1) (aa (pv 2) af))) af))) (bc (i := 4) rf.nd rfl (Or.inl rfl)) (av (aN (aX fP (pv 1) (pv 2) (aR _)) (av (az (i := 3) rf.nd rfl (Or.inl rfl) (aA a5 (pv 3) (ak ao (ak ao (pv 0) (pv 4) (fun _ _ => rfl)) ae (fun _ _ => rfl))))) (av (az (i := 3) rf.nd rfl (Or.inl rfl) (aA cU (pv 3) (ak ao (ak ao (pv 0) (pv 4) (fun _ _ => rfl)) ae (fun _ _ => rfl))))))))
  (av (aG (pv 3))))), ?_⟩
  have hl := hP.len
  walk_at "gzn"
  rw [Px, Py]
  refine ⟨by omega, by omega, by omega, by omega, ?_⟩
  rw [show (((max i j : Nat) : Int) - ((min i j : Nat) : Int)).toNat = max i j - min i j by omega]
  refine qi (Up H a ps i j) ⟨_, by rw [HF.1], rfl⟩ ?_ ?_
  ·rintro k σ H1 hk ⟨e, rfl, rfl⟩
   obtain ⟨v, ev, hv⟩ := Pn hP (i := min i j + k) (by omega)
   obtain ⟨t, rfl, ht⟩ := hv
   rw [show ((min i j + k : Nat) : Int) = ((min i j : Nat) : Int) + (k : Int) by omega] at ev
   walk_at "gzn"
   split
   ·rename_i h
    refine aL hS ev (aF (ai.of ht) rfl ?_)
    walk_at "gzn"
    refine ⟨some (.int (((min i j : Nat) : Int) + (k : Int))), ?_, rfl⟩
    unfold part
    rw [if_pos (by omega), if_pos (by omega), show min i j + (k + 1) = min i j + k + 1 by omega, kq _ _ (by omega)]
    simp only [List.cons.injEq, Option.some.injEq, V.int.injEq, true_and, and_true]
    omega
   ·rename_i h
    refine aL hS ev (aF (ai.of ht) rfl ?_)
    walk_at "gzn"
    refine ⟨some (.int (((min i j : Nat) : Int) + (k : Int))), ?_, rfl⟩
    unfold part
    rw [if_neg (by omega), if_neg (by omega), show min i j + (k + 1) = min i j + k + 1 by omega, kq _ _ (by omega)]
    simp only [List.cons.injEq, Option.some.injEq, V.int.injEq, true_and, and_true]
    omega
  ·rintro σ H1 ⟨e, rfl, rfl⟩
   walk_at "gzn"
   rw [HF.2]
   exact q
end
section
seal L2.PE L2.PS L2.bg L2.PA
variable {P : Program} {w : World} {K : PySem.W.Frag} {mg : Str -> Option Value} {base : Heap}
noncomputable def Ur (K : PySem.W.Frag) : Sp := fun vs H Q _ => ∃ (a : Addr) (xs : List V) (ps : List P2) (u v : V) (m n : Mk), vs = [.ref a, u, v] /\ ah K H a xs /\ dO H xs ps /\ ps.length <= 1000 /\ dm H u m /\ dm H v n /\ m.1 <= ps.length /\ n.1 <= ps.length /\ Q (.bl (uN ps m n)) H
theorem Us (T : Tx K mg) : aJ P w K mg base (aK P w) 2 T.jv T.wF ["_law_steps_here", "_law_one", "_law_other"] (Ur K) := by
 refine okN T.ox RI (fun vs H Q E h => ?_) (fun aI A outer s H vs Q E hr h => ?_)
 ·obtain ⟨a, xs, ps, u, v, m, n, rfl, _⟩ := h
  rfl
 ·obtain ⟨a, xs, ps, u, v, ⟨i, lo, hi⟩, ⟨j, Ut, Uu⟩, rfl, hS, hP, hn, ⟨ta, pa, rfl, A1, A2⟩, ⟨tb, pb, rfl, B1, B2⟩, Uv, Uw, q⟩ := h
  refine ⟨_, (aj (aN (PW.pt (cG (bp (bZ (ak ao (ak ao (pv 1) ae (fun _ _ => rfl)) ae (fun _ _ => rfl)))) (dc (bp (bZ (ak ao (ak ao (pv 2) ae (fun _ _ => rfl)) ae (fun _ _ => rfl))))))) (av (aG cT)) aO)
  (av (aG (eJ fm (ak ao (ak ao (pv 2) ae (fun _ _ => rfl)) ae (fun _ _ => rfl)) (aA a5 (ak ao (ak ao (pv 1) ae (fun _ _ => rfl)) ae (fun _ _ => rfl)) (aE (Uq T) (hr.mono (by decide)) rfl T.Jo T.ou.kp T.wD .nil aC (aa (pv 0) (aa (ak ao (pv 1) ae (fun _ _ => rfl)) (aa (ak ao (pv 2) ae (fun _ _ => rfl)) af))))) (aR _))))), ?_⟩
  walk_at "gzn"
  refine aF (ai.of A1) rfl (aF (ai.of A2) rfl ?_)
  walk_at "gzn"
  cases hi with
  | none =>
   walk_at "gzn"
   exact q
  | some h =>
   walk_at "gzn"
   refine aF (ai.of B1) rfl (aF (ai.of B2) rfl ?_)
   walk_at "gzn"
   cases Ut with
   | none =>
    walk_at "gzn"
    exact q
   | some l =>
    walk_at "gzn"
    refine aF (ai.of B1) rfl (aF (ai.of B2) rfl (aF (ai.of A1) rfl (aF (ai.of A2) rfl ?_)))
    walk_at "gzn"
    refine aF (ai.of A1) rfl (aF (ai.of B1) rfl ?_)
    refine ⟨a, xs, ps, i, j, rfl, hS, hP, hn, Uv, Uw, ?_⟩
    walk_at "gzn"
    rw [show uN ps (i, lo, some h) (j, some l, Uu) = decide (h + cK ps i j < l) from decide_eq_decide.mpr (by dsimp only; omega)] at q
    exact q
noncomputable def Ux (K : PySem.W.Frag) : Sp := fun vs H Q _ => ∃ (a b : Addr) (w z : V) (zs : List V) (gs : List S2) (k : Nat) (s : S2), vs = [.ref a, w, .ref b, z] /\ H a = some (.tup [.non, .int (k : Int)]) /\ ah K H b zs /\ ay (bN H) zs (gs.map some) /\ gs[k]? = some s /\ ∀ v H', aw H H' -> dm H' v (k, s) -> Q v H'
theorem KW (T : Tx K mg) : aJ P w K mg base (aK P w) 2 T.jw T.wH ["_law_place", "_law_told", "_law_goals_here", "_law_aside"] (Ux K) := by
 refine okN T.kM RJ (fun vs H Q E h => ?_) (fun aI A outer s H vs Q E hr h => ?_)
 ·obtain ⟨a, b, w, z, zs, gs, k, s, rfl, _⟩ := h
  rfl
 ·obtain ⟨a, b, w, z, zs, gs, k, s, rfl, ha, hb, hG, hk, q⟩ := h
  refine ⟨_, (aj (aN (PW.pt (cG (dI (dY (a6 lL (by rfl) T.ck cq (aa (pv 0) (aa (jV (v := .ty "tuple") rfl T.wY y6 rfl) af))))) (cG (aX pF (a6 cD (by rfl) T.cz cE (aa (pv 0) af)) ae (aR _)) (dc (dI (dY (aE (AL T) (hr.mono (by decide)) rfl T.wj T.jk.kp T.oh .nil aC (aa (ak ao (pv 0) ae (fun _ _ => rfl)) af)))))))) (av (aG bA)) aO)
  (aj (aN (bp (bZ (ak ao (pv 0) ae (fun _ _ => rfl)))) (aj (aN (PW.pt (du (sx fk fP ae (ak ao (pv 0) ae (fun _ _ => rfl)) (a6 cD (by rfl) T.cz cE (aa (pv 2) af))) (dZ (bp (cC (ak ao (pv 2) (ak ao (pv 0) ae (fun _ _ => rfl)) (fun _ _ => rfl))))))) (av (aG (aY (aa (ak ao (pv 0) ae (fun _ _ => rfl)) (aa (ak ao (pv 2) (ak ao (pv 0) ae (fun _ _ => rfl)) (fun _ _ => rfl)) af))))) aO)
    (av (aG bA))) aO)
  so)), ?_⟩
  obtain ⟨v, hv, pz, rfl, hp⟩ := hG.at (i := k) (a := some s) (by rw [List.getElem?_map, hk]; rfl)
  have hkz := (List.getElem?_eq_some_iff.mp hv).1
  walk_at "gzn"
  refine qh ha ?_
  walk_at "gzn"
  refine ⟨_, gB (ai.of ha), ?_⟩
  walk_at "gzn"
  refine aF (ai.of ha) (v := .int k) rfl ⟨_, rfl, .inr ⟨_, rfl⟩, ?_⟩
  simp only [isWhole]
  walk_at "gzn"
  refine aF (ai.of ha) (v := .non) rfl ?_
  rw [if_pos rfl]
  refine aF (ai.of ha) (v := .int k) rfl ⟨_, rfl, ?_⟩
  rw [if_pos (by omega)]
  refine ⟨_, dg hb, _, rfl, ?_⟩
  rw [if_pos (by omega)]
  refine aF (ai.of ha) (v := .int k) rfl (aL hb (df hv) ?_)
  rw [if_pos (fun z => nomatch z)]
  refine aF (ai.of ha) (v := .int k) rfl (aF (ai.of ha) (v := .int k) rfl (aL hb (df hv) ⟨bo, fun t ht => ?_⟩))
  exact q _ _ (au ht) ⟨t, pz, rfl, aq, (au ht) _ _ hp⟩
noncomputable def Uy (K : PySem.W.Frag) : Sp := fun vs H Q _ => ∃ (k a b : Addr) (w : Str) (i j : Nat) (v1 v2 v3 : V), vs = [.ref k, v1, v2, v3] /\ H k = some (.tup [.str w, .ref a, .ref b, .non, .non]) /\ H a = some (.tup [.non, .int (i : Int)]) /\ H b = some (.tup [.non, .int (j : Int)]) /\ Q (.bl true) H
theorem Uz (T : Tx K mg) : aJ P w K mg base (aK P w) 1 T.jx T.wI ["_law_paper", "_law_told", "_law_known", "_law_aside"] (Uy K) := by
 refine okN T.oy As (fun vs H Q E h => ?_) (fun aI A outer s H vs Q E hr h => ?_)
 ·obtain ⟨k, a, b, w, i, j, v1, v2, v3, rfl, _⟩ := h
  rfl
 ·obtain ⟨k, a, b, w, i, j, v1, v2, v3, rfl, hk, ha, hb, q⟩ := h
  refine ⟨_, (aj (az (i := 4) As.nd rfl (Or.inl rfl) (ak ao (ak ao (pv 0) ae (fun _ _ => rfl)) ae (fun _ _ => rfl)))
  (aj (az (i := 5) As.nd rfl (Or.inl rfl) (ak ao (ak ao (pv 0) ae (fun _ _ => rfl)) ae (fun _ _ => rfl)))
  (aj (aN (PW.pt (du (bp (bZ (pv 4))) (dZ (bp (cC (ak ao (pv 0) ae (fun _ _ => rfl))))))) (av (aG cT)) aO)
  (aj (aN (PW.pt (du (bp (cC (pv 4))) (dZ (dI (dY zN))))) (av (aG cT)) aO)
  (aj (aN (PW.pt (cG (bp (bZ (pv 5))) (dc (aX bJ (pv 5) (pv 4) (aR _))))) (av (aG (oW (bZ (ak ao (pv 0) ae (fun _ _ => rfl)))))) aO)
  so))))), ?_⟩
  walk_at "gzn"
  refine aF (ai.of hk) (v := .ref a) rfl (aF (ai.of ha) (v := .non) rfl (aF (ai.of hk) (v := .ref b) rfl (aF (ai.of hb) (v := .non) rfl ?_)))
  walk_at "gzn"
  refine aF (ai.of hk) (v := .non) rfl ?_
  rw [if_neg (fun z => z rfl)]
  exact aF (ai.of hk) (v := .non) rfl q
end
section
seal L2.PE L2.PS L2.bg L2.PA
variable {P : Program} {w : World} {K : PySem.W.Frag} {mg : Str -> Option Value} {base : Heap}
theorem UA : Gd 1 (.tuple [.str "full"]) := .tup fun d hd => by
 obtain rfl : d = .str "full" := by simpa using hd
 exact Gd.str (by decide +kernel)
theorem KY {w : Str} (h : PyData.strOk w = true) (j : Int) : Gd 1 (.tuple [.str w, .int j]) := .tup fun d hd => by
 simp only [List.mem_cons, List.not_mem_nil, or_false] at hd
 rcases hd with rfl | rfl
 ·exact Gd.str h
 ·exact Gd.int _
theorem UB (i j : Int) : Gd 2 (.tuple [.str "clash", .tuple [.none, .int i], .tuple [.none, .int j], .none, .none]) := .tup fun d hd => by
 simp only [List.mem_cons, List.not_mem_nil, or_false] at hd
 rcases hd with rfl | rfl | rfl | rfl | rfl
 ·exact (Gd.str (by decide +kernel)).up (by decide)
 all_goals exact .of rfl
theorem Bi {K : PySem.W.Frag} {H : Hp} {x : V} {p : Addr} {d : PyData} {n : Nat} {Q : VK} (hx : Dat K H x d) (g : Gd n d) (hn : n <= 60) (hp : H p = some (.tup [.str "full"])) (bW : PyData.eqv d (.tuple [.str "full"]) = false) (q : Q (.bl false) H) : tV K false x (.ref p) H Q := by
 refine ⟨d, _, hx, .tup (ai.of hp) (.cons (.str _) .nil), g.lay, UA.lay, Nat.le_trans g.dep hn, ?_⟩
 rw [if_neg (by decide), bW]
 exact q
theorem UC {ps : List P2} {m n : Mk} (h : clash ps m n) : uN ps m n = true := by
 obtain ⟨a, b, e1, e2, e3⟩ := h
 unfold uN
 rw [e1, e2]
 exact decide_eq_true (by omega)
noncomputable def rW (H : Hp) (k : Addr) (sw gw : List W2) : Prop := (∃ j : Nat, H k = some (.tup [.str "step", .int (j : Int)]) /\ sw[j]? = some none) ∨ (∃ j : Nat, H k = some (.tup [.str "at", .int (j : Int)]) /\ gw[j]? = some none) ∨
 ∃ (a b : Addr) (m n : Mk) (pp : List P2) (gs : List S2), H k = some (.tup [.str "clash", .ref a, .ref b, .non, .non]) /\ H a = some (.tup [.non, .int (m.1 : Int)]) /\ H b = some (.tup [.non, .int (n.1 : Int)]) /\ sw = pp.map fF /\ gw = gs.map some /\ gs[m.1]? = some m.2 /\ gs[n.1]? = some n.2 /\ clash pp m n
noncomputable def UD (K : PySem.W.Frag) : Sp := fun vs H Q _ => ∃ (k kn s gl : Addr) (v1 z : V) (m : Int) (ys zs : List V) (sw gw : List W2), vs = [.ref k, v1, .ref kn, z] /\ H kn = some (.tup [.ref s, .ref gl, .int m]) /\ H s = some (.lst ys) /\ ay (bN H) ys sw /\ H gl = some (.lst zs) /\ ay (bN H) zs gw /\ gw.length = sw.length + 1 /\ sw.length <= 900 /\ rW H k sw gw /\ ∀ H', aw H H' -> Q (.bl true) H'
theorem UE (T : Tx K mg) : aJ P w K mg base (aK P w) 3 T.jy T.wK ["_law_paper", "_law_told", "_law_known", "_law_aside"] (UD K) := by
 refine okN T.oz iB (fun vs H Q E h => ?_) (fun aI A outer s H vs Q E hr h => ?_)
 ·obtain ⟨k, kn, s, gl, v1, z, m, ys, zs, sw, gw, rfl, _⟩ := h
  rfl
 ·obtain ⟨k, kn, s, gl, v1, z, m, ys, zs, sw, gw, rfl, Bj, hs, hW, hg, hG, jQ, hn, hR, q⟩ := h
  refine ⟨_, (aj (ph (pv 2) (d8 (n := 3) rfl (bE (bc (i := 4) iB.nd rfl (Or.inl rfl)) (bE (bc (i := 5) iB.nd rfl (Or.inl rfl)) (bE (bc (i := 6) iB.nd rfl (Or.inl rfl)) d0)))))
  (aj (aN (PW.pt (cG (dI (dY (a6 lL (by rfl) T.ck cq (aa (pv 0) (aa (jV (v := .ty "tuple") rfl T.wY y6 rfl) af))))) (dc (aX bJ (a6 cD (by rfl) T.cz cE (aa (pv 0) af)) ae (aR _))))) (av (aG cT)) aO)
  (aj (aN (aX (tW hr.units) (pv 0) (aY (aa bq af)) (aR _)) (av (aG (eJ fm (a6 cD (by rfl) T.cz cE (aa (pv 3) af)) (pv 6) (aR _)))) aO)
  (aj (aN (PW.pt (du (aX bJ (a6 cD (by rfl) T.cz cE (aa (pv 0) af)) ae (aR _)) (dZ (aX Nh (ak ao (pv 0) ae (fun _ _ => rfl)) (aY (aa bq (aa bq af))) (by with_unfolding_all rfl))))) (aj (az (i := 7) iB.nd rfl (Or.inl rfl) (pv 5))
    (aj (aN (aX bJ (ak ao (pv 0) ae (fun _ _ => rfl)) bq (aR _)) (av (az (i := 7) iB.nd rfl (Or.inl rfl) (pv 4))) aO)
    (av (aG (eI (aE (AL T) (hr.mono (by decide)) rfl T.wj T.jk.kp T.oh .nil aC (aa (ak ao (pv 0) ae (fun _ _ => rfl)) af)) (eI (FZ fk fP ae (ak ao (pv 0) ae (fun _ _ => rfl)) (a6 cD (by rfl) T.cz cE (aa (pv 7) af))) (fL (oW (bZ (ak ao (pv 7) (ak ao (pv 0) ae (fun _ _ => rfl)) (fun _ _ => rfl))))))))))) aO)
  (aj (aN (PW.pt (cG (aX pF (a6 cD (by rfl) T.cz cE (aa (pv 0) af)) ae (aR _)) (cG (aX pF (ak ao (pv 0) ae (fun _ _ => rfl)) bq (aR _)) (dc (aX (Aa (lJ hr)) bA (pv 4) (by with_unfolding_all rfl)))))) (av (aG cT)) aO)
  (aj (az (i := 8) iB.nd rfl (Or.inl rfl) (aE (KW T) (hr.mono (by decide)) rfl T.AG T.kM.kp T.rH .nil aC (aa (ak ao (pv 0) ae (fun _ _ => rfl)) (aa (pv 1) (aa (pv 5) (aa (pv 3) af))))))
  (aj (az (i := 9) iB.nd rfl (Or.inl rfl) (aE (KW T) (hr.mono (by decide)) rfl T.AG T.kM.kp T.rH .nil aC (aa (ak ao (pv 0) ae (fun _ _ => rfl)) (aa (pv 1) (aa (pv 5) (aa (pv 3) af))))))
  (aj (aN (PW.pt (cG (bp (bZ (pv 8))) (cG (bp (bZ (pv 9))) (dc (dI (dY (aE (Us T) (hr.mono (by decide)) rfl T.Jp T.ox.kp T.wG .nil aC (aa (pv 4) (aa (pv 8) (aa (pv 9) af)))))))))) (av (aG cT)) aO)
  (av (aG (aE (Uz T) (hr.mono (by decide)) rfl T.Jq T.oy.kp T.wJ .nil aC (aa (pv 0) (aa (pv 1) (aa (pv 2) (aa (pv 3) af))))))))))))))), ?_⟩
  have yl := hW.len
  have zl := hG.len
  refine a7 (fun σ H1 => σ = [some (.ref k), some v1, some (.ref kn), some z, some (.ref s), some (.ref gl), some (.int m), none, none, none] /\ H1 = H) (fun N hN => ?_) ?_
  ·walk_at "gzn"
   exact uw (ai.of Bj) (hN _ _ ⟨rfl, rfl⟩)
  rintro σ H1 ⟨rfl, rfl⟩
  rcases hR with ⟨j, hk, hj⟩ | ⟨j, hk, hj⟩ | ⟨a, b, mm, nn, pp, gs, hk, ha, hb, es, eg, h1, h2, hc⟩
  ·walk_at "gzn"
   refine qh hk ?_
   walk_at "gzn"
   refine ⟨_, gB (ai.of hk), ?_⟩
   walk_at "gzn"
   rw [if_neg (by decide)]
   refine ⟨by decide, fun p hp => ?_⟩
   have u1 := au (o := .tup [.str "full"]) hp
   refine Bi (d := .tuple [.str "step", .int j]) (n := 1) (.tup (ai.of (u1 _ _ hk)) (.cons (.str _) (.cons (.int _) .nil))) (KY (by decide +kernel) _) (by decide) aq (by simp [PyData.eqv, PyData.eqvAll]) ⟨_, rfl, ?_⟩
   rw [if_neg (by simp)]
   refine ⟨_, gB (ai.of (u1 _ _ hk)), ?_⟩
   refine bz (fun _ => ?_) fun zz => absurd rfl zz
   refine aF (ai.of (u1 _ _ hk)) (v := .str "step") rfl ⟨bo, fun p2 kY => ?_⟩
   have u2 := au (o := .tup [.str "step", .str "at"]) kY
   have U := u1.trans u2
   refine ⟨p2, _, rfl, .inr (ai.of aq), rfl, rfl, _, rfl, ?_⟩
   rw [if_pos (by decide)]
   refine aF (ai.of (U _ _ hk)) (v := .str "step") rfl ⟨rfl, ?_⟩
   rw [if_pos rfl]
   obtain ⟨vj, hvj, rj⟩ := hW.at hj
   obtain rfl : vj = .non := rj
   have jl := (List.getElem?_eq_some_iff.mp hvj).1
   refine aF (ai.of (U _ _ hk)) (v := .int j) rfl ⟨_, rfl, .inr ⟨_, rfl⟩, ?_⟩
   simp only [isWhole]
   walk_at "gzn"
   refine aF (ai.of (U _ _ hk)) (v := .int j) rfl ⟨_, rfl, ?_⟩
   rw [if_pos (by omega)]
   refine ⟨_, dg (ah.of (U _ _ hs)), _, rfl, ?_⟩
   rw [if_pos (by omega)]
   refine aF (ai.of (U _ _ hk)) (v := .int j) rfl (aL (ah.of (U _ _ hs)) (df hvj) ?_)
   exact q _ U
  ·walk_at "gzn"
   refine qh hk ?_
   walk_at "gzn"
   refine ⟨_, gB (ai.of hk), ?_⟩
   walk_at "gzn"
   rw [if_neg (by decide)]
   refine ⟨by decide, fun p hp => ?_⟩
   have u1 := au (o := .tup [.str "full"]) hp
   refine Bi (d := .tuple [.str "at", .int j]) (n := 1) (.tup (ai.of (u1 _ _ hk)) (.cons (.str _) (.cons (.int _) .nil))) (KY (by decide +kernel) _) (by decide) aq (by simp [PyData.eqv, PyData.eqvAll]) ⟨_, rfl, ?_⟩
   rw [if_neg (by simp)]
   refine ⟨_, gB (ai.of (u1 _ _ hk)), ?_⟩
   refine bz (fun _ => ?_) fun zz => absurd rfl zz
   refine aF (ai.of (u1 _ _ hk)) (v := .str "at") rfl ⟨bo, fun p2 kY => ?_⟩
   have u2 := au (o := .tup [.str "step", .str "at"]) kY
   have U := u1.trans u2
   refine ⟨p2, _, rfl, .inr (ai.of aq), rfl, rfl, _, rfl, ?_⟩
   rw [if_pos (by decide)]
   refine aF (ai.of (U _ _ hk)) (v := .str "at") rfl ⟨rfl, ?_⟩
   rw [if_neg (by decide)]
   obtain ⟨vj, hvj, rj⟩ := hG.at hj
   obtain rfl : vj = .non := rj
   have jl := (List.getElem?_eq_some_iff.mp hvj).1
   refine aF (ai.of (U _ _ hk)) (v := .int j) rfl ⟨_, rfl, .inr ⟨_, rfl⟩, ?_⟩
   simp only [isWhole]
   walk_at "gzn"
   refine aF (ai.of (U _ _ hk)) (v := .int j) rfl ⟨_, rfl, ?_⟩
   rw [if_pos (by omega)]
   refine ⟨_, dg (ah.of (U _ _ hg)), _, rfl, ?_⟩
   rw [if_pos (by omega)]
   refine aF (ai.of (U _ _ hk)) (v := .int j) rfl (aL (ah.of (U _ _ hg)) (df hvj) ?_)
   exact q _ U
  ·walk_at "gzn"
   refine qh hk ?_
   walk_at "gzn"
   refine ⟨_, gB (ai.of hk), ?_⟩
   walk_at "gzn"
   rw [if_neg (by decide)]
   refine ⟨by decide, fun p hp => ?_⟩
   have u1 := au (o := .tup [.str "full"]) hp
   refine Bi (d := .tuple [.str "clash", .tuple [.none, .int mm.1], .tuple [.none, .int nn.1], .none, .none]) (n := 2) (.tup (ai.of (u1 _ _ hk)) (.cons (.str _) (.cons (.tup (ai.of (u1 _ _ ha)) (.cons .non (.cons (.int _) .nil))) (.cons (.tup (ai.of (u1 _ _ hb)) (.cons .non (.cons (.int _) .nil))) (.cons .non (.cons .non .nil)))))) (UB _ _) (by decide) aq (by simp [PyData.eqv, PyData.eqvAll]) ⟨_, rfl, ?_⟩
   rw [if_neg (by simp)]
   refine ⟨_, gB (ai.of (u1 _ _ hk)), ?_⟩
   refine bz (fun zz => absurd zz (show ¬ ((5 : Nat) : Int) = 2 by decide)) fun _ => ?_
   refine ⟨_, gB (ai.of (u1 _ _ hk)), ?_⟩
   refine bz (fun zz => absurd rfl zz) fun _ => ?_
   refine aF (ai.of (u1 _ _ hk)) (v := .str "clash") rfl ⟨rfl, ?_⟩
   rw [if_neg (fun z => z rfl)]
   have UG := hW.imp fun _ _ r => bN.same r u1
   have KZ := hG.imp fun _ _ r => bN.same r u1
   obtain ⟨n1, n2, _⟩ := uM UG
   refine ⟨s, ys, rfl, rfl, ah.of (u1 _ _ hs), n1, _, rfl, ?_⟩
   have UH : ys.any fZ = false := by
    rw [n2, es]
    exact List.any_eq_false.mpr fun w hw => by
     obtain ⟨p, _, rfl⟩ := List.mem_map.mp hw
     simp [fF]
   rw [UH, if_neg (by simp)]
   subst es eg
   rw [List.length_map, List.length_map] at jQ
   have b1 := (List.getElem?_eq_some_iff.mp h1).1
   have b2 := (List.getElem?_eq_some_iff.mp h2).1
   refine aF (ai.of (u1 _ _ hk)) (v := .ref a) rfl ⟨a, gl, _, _, zs, gs, mm.1, mm.2, rfl, u1 _ _ ha, ah.of (u1 _ _ hg), KZ, h1, fun v2 H2 s2 m2 => ?_⟩
   have U2 := u1.trans s2
   refine aF (ai.of (U2 _ _ hk)) (v := .ref b) rfl ⟨b, gl, _, _, zs, gs, nn.1, nn.2, rfl, U2 _ _ hb, ah.of (U2 _ _ hg), KZ.imp fun _ _ r => bN.same r s2, h2, fun v3 H3 s3 m3 => ?_⟩
   have U3 := U2.trans s3
   obtain ⟨_, _, e2, _⟩ := id m2
   obtain ⟨_, _, e3, _⟩ := id m3
   dsimp only
   rw [if_neg (fun z => by rw [e2] at z; cases z), if_neg (fun z => by rw [e3] at z; cases z)]
   rw [List.length_map] at hn
   refine ⟨s, ys, pp, v2, v3, mm, nn, rfl, ah.of (U3 _ _ hs), Ak (hW.imp fun _ _ r => bN.same r U3), by omega, m2.same s3, m3, by omega, by omega, _, rfl, ?_⟩
   rw [UC hc, if_neg (by simp)]
   exact ⟨k, a, b, _, mm.1, nn.1, _, _, _, rfl, U3 _ _ hk, U3 _ _ ha, U3 _ _ hb, q _ U3⟩
end
section
seal L2.PE L2.PS L2.bg L2.PA
variable {P : Program} {w : World} {K : PySem.W.Frag} {mg : Str -> Option Value} {base : Heap}
noncomputable def UI (G : Hp) (w : Addr) (c : V) (l : Addr) (_ : Nat) (σ : St) (H4 : Hp) : Prop := ∃ (e1 e2 : Option V), σ = [some (.ref w), some c, some (.ref l), e1, e2] /\ aw G H4
noncomputable def UJ (K : PySem.W.Frag) : Sp := fun vs H Q _ => ∃ (w : Addr) (c : V), vs = [.ref w, c] /\ H w = some (.dT []) /\ ∀ l H', aw H H' -> H l = none -> H' l = some (.lst []) -> Q (.ref l) H'
theorem UK (T : Tx K mg) : aJ P w K mg base (aK P w) 2 T.jq T.wu ["_law_told", "_law_course_here"] (UJ K) := by
 refine okN T.oo uQ (fun vs H Q E h => ?_) (fun aI A outer s H vs Q E hr h => ?_)
 ·obtain ⟨w, c, rfl, _⟩ := h
  rfl
 ·obtain ⟨w, c, rfl, hw, q⟩ := h
  refine ⟨_, (aj (az (i := 2) uQ.nd rfl (Or.inl rfl) (cN af))
  (aj (Rf (cI PassesOwn.never rfl (Rh (pv 0)) (d8 rfl (bE (bc (i := 3) uQ.nd rfl (Or.inl rfl)) (bE (bc (i := 4) uQ.nd rfl (Or.inl rfl)) d0))) so))
  (av (aG (pv 2))))), ?_⟩
  refine a7 (fun σ H1 => ∃ l, σ = [some (.ref w), some c, some (.ref l), none, none] /\ aw H H1 /\ H l = none /\ H1 l = some (.lst [])) (fun N hN => ?_) ?_
  ·walk_at "gzn"
   exact ⟨Nat.zero_le _, fun l hl => hN _ _ ⟨l, rfl, au hl, hl, aq⟩⟩
  rintro σ H1 ⟨l, rfl, s1, fl, hl⟩
  refine a7 (fun σ H2 => ∃ e1 e2, σ = [some (.ref w), some c, some (.ref l), e1, e2] /\ aw H1 H2) (fun N hN => ?_) ?_
  ·walk_at "gzn"
   refine ⟨w, [], s1 _ _ hw, fun o => ⟨o, [], aq, fun K0 => ?_⟩⟩
   have UL : gd o = [] := by
    cases hh : gd o with
    | nil => rfl
    | cons a b => rw [hh] at K0; exact K0.elim
   refine Ri (xs := []) (UI (upd H1 w (.bj o (.dT []))) w c l) UL rfl ⟨_, _, rfl, aw.refl _⟩ ?_ ?_ ?_
   ·rintro i σ H4 _ ⟨_, _, _, s4⟩
    exact s4 _ _ aq
   ·rintro i x σ H4 hx _
    cases hx
   ·rintro σ H4 ⟨_, _, rfl, s4⟩
    exact ⟨s4 _ _ aq, hN _ _ ⟨_, _, rfl, Rk (s1 _ _ hw) s4⟩⟩
  rintro σ H2 ⟨e1, e2, rfl, s2⟩
  walk_at "gzn"
  exact q l _ (s1.trans s2) fl (s2 _ _ hl)
end
section
seal L2.PE L2.PS L2.bg L2.PA
variable {P : Program} {w : World} {K : PySem.W.Frag} {mg : Str -> Option Value} {base : Heap}
theorem UM {cs : List Int} {ps : List Pa} {u d t : Int} {pp : List P2} {gs : List S2} (ht : 1 <= t) (cu : cs.length = t.toNat) (hk : di t ps) (es : c9 u d ps (t - 1).toNat = pp.map fF) (eg : da ps t.toNat = gs.map some) (rR : iu pp (aZ cs)) (rS : ∀ (k : Nat) s, gs[k]? = some s -> bw s (aZ cs k)) :
 gG cs ps = true /\ (∀ k, k + 1 < cs.length -> -d <= aZ cs (k + 1) - aZ cs k /\ aZ cs (k + 1) - aZ cs k <= u) /\ ∀ p ∈ ps, Bh cs p.1 p.2.1 := by
 have K1 : ∀ k, k < (t - 1).toNat -> ∀ s ∈ (some (-d), some u) :: sel ps "step" (k : Int), bw s (aZ cs (k + 1) - aZ cs k) := by
  intro k gK
  have e : (c9 u d ps (t - 1).toNat)[k]? = some (cF (none, none) ((some (-d), some u) :: sel ps "step" (k : Int))) := by
   unfold c9
   rw [List.getElem?_map, List.getElem?_range gK]
   rfl
  rw [es, List.getElem?_map] at e
  obtain ⟨p, hp, e2⟩ := Option.map_eq_some_iff.mp e
  have UN := (List.getElem?_eq_some_iff.mp hp).1
  have ek : aD pp k = p := by
   unfold aD
   rw [List.getD_eq_getElem?_getD, hp]
   rfl
  have h := rR k UN
  rw [ek] at h
  refine zU.mp ?_
  rw [<- e2]
  exact ⟨_, rfl, fun a z => by cases z; exact h.1, fun b z => by cases z; exact h.2⟩
 have UO : ∀ k, k < t.toNat -> ∀ s ∈ sel ps "at" (k : Int), bw s (aZ cs k) := by
  intro k gK
  have e : (da ps t.toNat)[k]? = some (cF (none, none) (sel ps "at" (k : Int))) := by
   unfold da
   rw [List.getElem?_map, List.getElem?_range gK]
   rfl
  rw [eg, List.getElem?_map] at e
  obtain ⟨s, hs, e2⟩ := Option.map_eq_some_iff.mp e
  refine zU.mp ?_
  rw [<- e2]
  exact ⟨_, rfl, rS k s hs⟩
 have mem : ∀ p ∈ ps, ∀ (k : Str) (i : Int), p.1 = k -> p.2.1 = i -> p.2.2 ∈ sel ps k i := fun p hp k i e1 e2 => by
  unfold sel
  exact List.mem_map.mpr ⟨p, List.mem_filter.mpr ⟨hp, by unfold fU; rw [decide_eq_true e1, decide_eq_true e2]; rfl⟩, rfl⟩
 refine ⟨List.all_eq_true.mpr fun p hp => ?_, fun k gK => ?_, fun p hp => ?_⟩
 ·have h := hk p hp
  refine HM.mp ?_
  by_cases hs : p.1 = "step"
  ·rw [hs, lY] at h
   have en : fV cs p.1 p.2.1 = aZ cs (p.2.1.toNat + 1) - aZ cs p.2.1.toNat := by
    unfold fV aZ
    rw [if_pos hs, show (p.2.1 + 1).toNat = p.2.1.toNat + 1 by omega]
   rw [en]
   exact K1 p.2.1.toNat (by omega) _ (.tail _ (mem p hp _ _ hs (by omega)))
  ·rw [eY hs] at h
   have en : fV cs p.1 p.2.1 = aZ cs p.2.1.toNat := by
    unfold fV aZ
    rw [if_neg hs]
   rw [en]
   exact UO p.2.1.toNat (by omega) _ (mem p hp _ _ h.1 (by omega))
 ·have h := K1 k (by omega) _ (.head _)
  exact ⟨h.1 _ rfl, h.2 _ rfl⟩
 ·have h := hk p hp
  by_cases hs : p.1 = "step"
  ·rw [hs, lY] at h
   exact ⟨by omega, by omega, fun _ => by omega⟩
  ·rw [eY hs] at h
   exact ⟨by omega, by omega, fun z => absurd z hs⟩
noncomputable def UP (K : PySem.W.Frag) : Sp := fun vs H Q _ => ∃ (c b w cl : Addr) (cs : List Int) (e t u d m f : Int) (xs : List V) (ps : List Pa), vs = [.ref c, .ref b, .ref w, .ref cl] /\ H c = some (.lst (cs.map V.int)) /\ ah K H b (jS e t u d m f) /\ jR e t u d m f /\ H w = some (.dT []) /\ ah K H cl xs /\ bX H xs ps /\ cs.length = t.toNat /\ gG cs ps = true /\ (∀ k, k + 1 < cs.length -> -d <= aZ cs (k + 1) - aZ cs k /\ aZ cs (k + 1) - aZ cs k <= u) /\ (∀ p ∈ ps, Bh cs p.1 p.2.1) /\ 0 <= m /\ ∀ H', aw H H' -> Q (.bl true) H'
noncomputable def rX (H : Hp) (c b w cl : Addr) (_ : Nat) (σ : St) (H1 : Hp) : Prop := ∃ (e1 e2 : Option V), σ = [some (.ref c), some (.ref b), some (.ref w), some (.ref cl), e1, e2] /\ H1 = H
theorem UQ (T : Tx K mg) : aJ P w K mg base (aK P w) 3 T.jt T.wA ["_law_found", "_law_shape_here", "_law_told", "_law_claim"] (UP K) := by
 refine okN T.ot Ar (fun vs H Q E h => ?_) (fun aI A outer s H vs Q E hr h => ?_)
 ·obtain ⟨c, b, w, cl, cs, e, t, u, d, m, f, xs, ps, rfl, _⟩ := h
  rfl
 ·obtain ⟨c, b, w, cl, cs, e, t, u, d, m, f, xs, ps, rfl, hc, hb, sh, hw, hX, hP, cu, hmet, cn, Ah, m0, q⟩ := h
  refine ⟨_, (aj (aN (PW.pt (cG (dI (dY (a6 lL (by rfl) T.ck cq (aa (pv 0) (aa (jV (v := .ty "list") rfl T.wX y4 rfl) af))))) (dc (aX pF (a6 cD (by rfl) T.cz cE (aa (pv 0) af)) (ak ao (pv 1) ae (fun _ _ => rfl)) (aR _))))) (av (aG cT)) aO)
  (aj (cI PassesOwn.never rfl (ec (pv 0)) (bc (i := 4) Ar.nd rfl (Or.inl rfl)) (av (aN (dI (dY (aE (AL T) (hr.mono (by decide)) rfl T.wj T.jk.kp T.oh .nil aC (aa (pv 4) af)))) (av (aG cT)) aO)))
  (aj (cI PassesOwn.never rfl (fh rfl T.dS (aa (aA cU (ak ao (pv 1) ae (fun _ _ => rfl)) ae) af)) (bc (i := 5) Ar.nd rfl (Or.inl rfl)) (av (aN (PW.pt (cG (aX fm (aA cU (ak ao (pv 0) (aA a5 (pv 5) ae) (fun _ _ => rfl)) (ak ao (pv 0) (pv 5) (fun _ _ => rfl))) (ak ao (pv 1) ae (fun _ _ => rfl)) (aR _)) (dc (aX fm (aA cU (ak ao (pv 0) (pv 5) (fun _ _ => rfl)) (ak ao (pv 0) (aA a5 (pv 5) ae) (fun _ _ => rfl))) (ak ao (pv 1) ae (fun _ _ => rfl)) (aR _))))) (av (aG cT)) aO)))
  (av (aG (eI (aE (Uh T) (hr.mono (by decide)) rfl T.Jm T.oq.kp T.wz .nil aC (aa (pv 0) (aa (pv 3) af))) (fL (eJ fk (a6 cD (by rfl) T.cz cE (aa (aE (UK T) (hr.mono (by decide)) rfl T.Jl T.oo.kp T.wx .nil aC (aa (pv 2) (aa (pv 0) af))) af)) (ak ao (pv 1) ae (fun _ _ => rfl)) (aR _))))))))), ?_⟩
  have t1 := sh.ht
  refine a7 (rX H c b w cl 0) (fun N hN => ?_) ?_
  ·walk_at "gzn"
   refine NR hc ?_
   walk_at "gzn"
   refine ⟨_, dg (ah.of hc), aL hb (v := .int t) rfl ?_⟩
   rw [List.length_map, cu]
   walk_at "gzn"
   rw [if_neg (fun z => z (by omega))]
   exact hN _ _ ⟨_, _, rfl, rfl⟩
  rintro σ H1 ⟨e1, e2, rfl, rfl⟩
  refine a7 (rX H1 c b w cl 0) (fun N hN => ?_) ?_
  ·walk_at "gzn"
   refine ⟨⟨_, ah.of hc⟩, g8 (xs := cs.map V.int) (rX H1 c b w cl) ⟨_, _, rfl, rfl⟩ ?_ ?_ (fun σ H2 h => hN _ _ h)⟩
   ·rintro i σ H2 _ ⟨_, _, _, rfl⟩
    exact ah.of hc
   ·rintro i x σ H2 hx ⟨e1, e2, rfl, rfl⟩
    rw [List.getElem?_map] at hx
    obtain ⟨n, _, rfl⟩ := Option.map_eq_some_iff.mp hx
    walk_at "gzn"
    refine ⟨_, rfl, .inr ⟨_, rfl⟩, ?_⟩
    simp only [isWhole]
    walk_at "gzn"
    exact ⟨_, _, rfl, rfl⟩
  rintro σ H2 ⟨e1, e2, rfl, rfl⟩
  refine a7 (rX H2 c b w cl 0) (fun N hN => ?_) ?_
  ·walk_at "gzn"
   refine aL hb (v := .int t) rfl ?_
   walk_at "gzn"
   refine ⟨by omega, by omega, qi (rX H2 c b w cl) ⟨_, _, rfl, rfl⟩ ?_ (fun σ H3 h => hN _ _ h)⟩
   rintro i σ H3 hi ⟨e1, e2, rfl, rfl⟩
   walk_at "gzn"
   rw [show (0 : Int) + (i : Int) = ((i : Nat) : Int) by omega]
   have hs := cn i (by omega)
   unfold aZ at hs
   refine aL (ah.of hc) (int_at (by omega) (by omega)) (aL (ah.of hc) (int_at (by omega) (by omega)) ?_)
   walk_at "gzn"
   refine aL hb (v := .int u) rfl ⟨_, rfl, ?_⟩
   rw [show ((i : Int) + 1).toNat = i + 1 by omega, Int.toNat_natCast, if_neg (by omega)]
   refine aL (ah.of hc) (int_at (by omega) (by omega)) (aL (ah.of hc) (int_at (by omega) (by omega)) ⟨_, rfl, _, rfl, aL hb (v := .int d) rfl ⟨_, rfl, ?_⟩⟩)
   rw [show ((i : Int) + 1).toNat = i + 1 by omega, Int.toNat_natCast, if_neg (by omega)]
   exact ⟨_, _, rfl, rfl⟩
  rintro σ H3 ⟨e1, e2, rfl, rfl⟩
  walk_at "gzn"
  refine ⟨c, cl, cs, xs, ps, rfl, ah.of hc, hX, hP, Ah, ?_⟩
  rw [hmet]
  walk_at "gzn"
  refine ⟨w, _, rfl, hw, fun l H4 s4 _ hl => ⟨_, dg (ah.of hl), aL (s4.seq hb) (v := .int m) rfl ⟨_, rfl, ?_⟩⟩⟩
  show Q (.bl (decide (((0 : Nat) : Int) <= m))) H4
  rw [decide_eq_true (by omega)]
  exact q _ s4
end
section
seal L2.PE L2.PS L2.bg L2.PA
variable {P : Program} {w : World} {K : PySem.W.Frag} {mg : Str -> Option Value} {base : Heap}
theorem rW.same {H H' : Hp} {k : Addr} {sw gw : List W2} (h : rW H k sw gw) (s : aw H H') : rW H' k sw gw := by
 rcases h with ⟨j, a, b⟩ | ⟨j, a, b⟩ | ⟨a, b, m, n, pp, gs, h1, h2, h3, h4⟩
 ·exact .inl ⟨j, s _ _ a, b⟩
 ·exact .inr (.inl ⟨j, s _ _ a, b⟩)
 ·exact .inr (.inr ⟨a, b, m, n, pp, gs, s _ _ h1, s _ _ h2, s _ _ h3, h4⟩)
noncomputable def UR (K : PySem.W.Frag) : Sp := fun vs H Q _ => ∃ (v : V) (b w cl : Addr) (e t u d m f : Int) (xs : List V) (ps : List Pa), vs = [v, .ref b, .ref w, .ref cl] /\ rQ H v (c9 u d ps (t - 1).toNat) (da ps t.toNat) /\ ah K H b (jS e t u d m f) /\ jR e t u d m f /\ H w = some (.dT []) /\ ah K H cl xs /\ bX H xs ps /\ ps.length <= 900 /\ di t ps /\ 0 <= m /\ ∀ H', aw H H' -> Q (.bl true) H'
theorem US (T : Tx K mg) : aJ P w K mg base (aK P w) 4 T.jz T.wM ["_law_answer", "_law_shape_here", "_law_told", "_law_claim"] (UR K) := by
 refine okN T.oA IM (fun vs H Q E h => ?_) (fun aI A outer s H vs Q E hr h => ?_)
 ·obtain ⟨v, b, w, cl, e, t, u, d, m, f, xs, ps, rfl, _⟩ := h
  rfl
 ·obtain ⟨v, b, w, cl, e, t, u, d, m, f, xs, ps, rfl, ⟨r, k, wd, rfl, hv, hA⟩, hb, sh, hw, hX, hP, hn, hk, m0, q⟩ := h
  refine ⟨_, (aj (aN (PW.pt (cG (dI (dY (a6 lL (by rfl) T.ck cq (aa (pv 0) (aa (jV (v := .ty "tuple") rfl T.wY y6 rfl) af))))) (dc (aX pF (a6 cD (by rfl) T.cz cE (aa (pv 0) af)) ae (aR _))))) (av (aG cT)) aO)
  (aj (aN (aX bJ (ak ao (pv 0) ae (fun _ _ => rfl)) bq (aR _)) (av (aG (aE (UQ T) (hr.mono (by decide)) rfl T.Jn T.ot.kp T.wB .nil aC (aa (ak ao (pv 0) ae (fun _ _ => rfl)) (aa (pv 1) (aa (pv 2) (aa (pv 3) af))))))) aO)
  (aj (az (i := 4) IM.nd rfl (Or.inl rfl) (aY (aa (aE (Uk T) (hr.mono (by decide)) rfl T.Jj T.oi.kp T.wo .nil aC (aa (pv 1) (aa (pv 3) af))) (aa (aE (Um T) (hr.mono (by decide)) rfl T.Jk T.oj.kp T.wt .nil aC (aa (pv 1) (aa (pv 3) af))) (aa (ak ao (pv 1) ae (fun _ _ => rfl)) af)))))
  (av (aG (eI (eJ bJ (ak ao (pv 0) ae (fun _ _ => rfl)) bq (aR _)) (fL (aE (UE T) (hr.mono (by decide)) rfl T.Jr T.oz.kp T.wL .nil aC (aa (ak ao (pv 0) ae (fun _ _ => rfl)) (aa (pv 2) (aa (pv 4) (aa (cN af) af)))))))))))), ?_⟩
  have t1 := sh.ht
  have wl : (c9 u d ps (t - 1).toNat).length = (t - 1).toNat := by unfold c9; rw [List.length_map, List.length_range]
  have gw : (da ps t.toNat).length = t.toNat := by unfold da; rw [List.length_map, List.length_range]
  have may : wd = "never" ∨ wd = "may" := by
   rcases hA with h | h | h | h
   ·exact .inl h.1
   ·exact .inl h.1
   ·exact .inl h.1
   ·exact .inr h.1
  refine a7 (fun σ H1 => σ = [some (.ref r), some (.ref b), some (.ref w), some (.ref cl), none] /\ H1 = H) (fun N hN => ?_) ?_
  ·walk_at "gzn"
   refine qh hv ?_
   walk_at "gzn"
   refine ⟨_, gB (ai.of hv), ?_⟩
   refine bz (fun zz => absurd rfl zz) fun _ => ?_
   exact hN _ _ ⟨rfl, rfl⟩
  rintro σ H1 ⟨rfl, rfl⟩
  rcases may with rfl | rfl
  ·have hR : rW H1 k (c9 u d ps (t - 1).toNat) (da ps t.toNat) := by
    rcases hA with h | h | h | h
    ·exact .inl h.2
    ·exact .inr (.inl h.2)
    ·exact .inr (.inr h.2)
    ·exact absurd h.1 (by decide)
   walk_at "gzn"
   refine aF (ai.of hv) (v := .str "never") rfl ⟨rfl, ?_⟩
   rw [if_neg (by decide)]
   refine ⟨b, cl, e, t, u, d, m, f, xs, ps, rfl, hb, sh, hX, hP, hn, fun l ys H2 s2 _ hl hW => ?_⟩
   refine ⟨b, cl, e, t, u, d, m, f, xs, ps, rfl, s2.seq hb, sh, s2.seq hX, hP.same s2, hn, fun gl zs H3 s3 _ jQ hG => ?_⟩
   have S3 := s2.trans s3
   refine aL (S3.seq hb) (v := .int m) rfl ⟨by decide, fun kn Bj => ?_⟩
   have u1 := au (o := .tup [.ref l, .ref gl, .int m]) Bj
   have U := S3.trans u1
   refine aF (ai.of (U _ _ hv)) (v := .str "never") rfl ⟨rfl, ?_⟩
   rw [if_pos rfl]
   refine aF (ai.of (U _ _ hv)) (v := .ref k) rfl ⟨Nat.zero_le _, fun z hz => ?_⟩
   have u2 := au (o := .lst []) hz
   have W := U.trans u2
   exact ⟨k, kn, l, gl, _, _, m, ys, zs, _, _, rfl, u2 _ _ aq, (s3.trans (u1.trans u2)) _ _ hl, hW.imp fun _ _ r => bN.same r (s3.trans (u1.trans u2)), (u1.trans u2) _ _ jQ, hG.imp fun _ _ r => bN.same r (u1.trans u2), by omega, by omega, hR.same W, fun H' s' => q _ (W.trans s')⟩
  ·obtain ⟨cs, pp, gs, h1, h2, es, eg, rR, rS⟩ : ∃ (cs : List Int) (pp : List P2) (gs : List S2), H1 k = some (.lst (cs.map V.int)) /\ cs.length = (da ps t.toNat).length /\ c9 u d ps (t - 1).toNat = pp.map fF /\ da ps t.toNat = gs.map some /\ iu pp (aZ cs) /\ ∀ t s, gs[t]? = some s -> bw s (aZ cs t) := by
    rcases hA with h | h | h | h
    ·exact absurd h.1 (by decide)
    ·exact absurd h.1 (by decide)
    ·exact absurd h.1 (by decide)
    ·exact h.2
   obtain ⟨a1, a2, a3⟩ := UM t1.1 (h2.trans gw) hk es eg rR rS
   walk_at "gzn"
   refine aF (ai.of hv) (v := .str "may") rfl ⟨rfl, ?_⟩
   rw [if_pos rfl]
   exact aF (ai.of hv) (v := .ref k) rfl ⟨k, b, w, cl, cs, e, t, u, d, m, f, xs, ps, rfl, h1, hb, sh, hw, hX, hP, h2.trans gw, a1, a2, a3, m0, q⟩
end
section
seal L2.PE L2.PS L2.bg L2.PA
variable {P : Program} {w : World} {K : PySem.W.Frag} {mg : Str -> Option Value} {base : Heap}
theorem rQ.same {H H' : Hp} {v : V} {sw gw : List W2} (h : rQ H v sw gw) (s : aw H H') : rQ H' v sw gw := by
 obtain ⟨r, k, w, e, h1, h2⟩ := h
 refine ⟨r, k, w, e, s _ _ h1, ?_⟩
 rcases h2 with ⟨a, j, b, c⟩ | ⟨a, j, b, c⟩ | ⟨a, x, y, m, n, pp, gs, b, c, d, f⟩ | ⟨a, cs, pp, gs, b, c⟩
 ·exact .inl ⟨a, j, s _ _ b, c⟩
 ·exact .inr (.inl ⟨a, j, s _ _ b, c⟩)
 ·exact .inr (.inr (.inl ⟨a, x, y, m, n, pp, gs, s _ _ b, s _ _ c, s _ _ d, f⟩))
 ·exact .inr (.inr (.inr ⟨a, cs, pp, gs, s _ _ b, c⟩))
theorem UT {t i : Int} {k : Str} (h : hasB t k i = true) : PyData.strOk k = true := by
 by_cases hs : k = "step"
 ·rw [hs]; decide +kernel
 ·rw [((eY hs).mp h).1]; decide +kernel
noncomputable def xq (K : PySem.W.Frag) : Sp := fun vs H Q _ => ∃ (a : Addr) (ns : List Int), vs = [.ref a] /\ ah K H a (ns.map V.int) /\ eW ns /\ ∀ H', Q (.bl true) H'
theorem UU (T : Tx K mg) : aJ P w K mg base (aK P w) 8 T.gi T.rJ ["_law_script"] (xq K) := by
 refine okN T.rK kA (fun vs H Q E h => ?_) (fun aI A outer s H vs Q E hr h => ?_)
 ·obtain ⟨a, ns, rfl, _⟩ := h
  rfl
 ·obtain ⟨a, ns, rfl, hS, hn, q⟩ := h
  refine ⟨_, (aj (az (i := 1) kA.nd rfl (Or.inl rfl) (aE (TM T) (hr.mono (by decide)) rfl T.Jf T.n5.kp T.v5 .nil aC (aa (pv 0) af)))
  (aj (az (i := 2) kA.nd rfl (Or.inl rfl) (aE (TR T) (hr.mono (by decide)) rfl T.Jg T.n6.kp T.v8 .nil aC (aa (pv 0) (aa (pv 1) af))))
  (aj (az (i := 3) kA.nd rfl (Or.inl rfl) (aE (T4 T) (hr.mono (by decide)) rfl T.Jt T.oB.kp T.wQ .nil aC (aa (pv 0) (aa (pv 1) (aa (pv 2) af)))))
  (aj (az (i := 4) kA.nd rfl (Or.inl rfl) (MS T.oG (RW T) (hr.mono (by decide)) rfl T.JP T.vU .nil aC (aa (ak ao (pv 1) ae (fun _ _ => rfl)) (aa (ak ao (pv 1) ae (fun _ _ => rfl)) (aa (ak ao (pv 1) ae (fun _ _ => rfl)) (aa (ak ao (pv 1) ae (fun _ _ => rfl)) (aa (ak ao (pv 1) ae (fun _ _ => rfl)) af)))))))
  (aj (aN (dI (dY (aE (Tv T) (hr.mono (by decide)) rfl T.Jv T.oF.kp T.wW .nil aC (aa (pv 4) (aa (aE (T7 T) (hr.mono (by decide)) rfl T.Ju T.oE.kp T.wU .nil aC (aa (pv 0) (aa (pv 1) (aa (pv 3) af)))) af))))) (av (aG cT)) aO)
  (aj (az (i := 5) kA.nd rfl (Or.inl rfl) (Gg Ni (by rfl) T.wX y4 (aa (pv 3) af)))
  (aj (az (i := 6) kA.nd rfl (Or.inl rfl) (aE (KI T) (hr.mono (by decide)) rfl T.AE T.kJ.kp T.rB .nil aC (aa (pv 4) (aa (pv 5) af))))
  (av (aG (eI (eJ (tW hr.units) (pv 5) (pv 3) (aR _)) (eI (eJ (tW hr.units) (yO (pv 4) T.b9 T.w9 (AQ T) (hr.mono (by decide)) T.n4 .nil aC) (cN af) (aR _)) (fL (aE (US T) (hr.mono (by decide)) rfl T.Js T.oA.kp T.wN .nil aC (aa (pv 6) (aa (pv 1) (aa HG (aa (pv 3) af))))))))))))))))), ?_⟩
  walk_at "gzn"
  refine ⟨a, ns, rfl, hS, hn, fun b e t u d m f H1 s1 _ hb sh => ?_⟩
  walk_at "gzn"
  refine ⟨a, b, ns, e, t, u, d, m, f, rfl, s1.seq hS, hn, ah.of hb, sh, fun c cs H2 s2 _ hc cu _ => ?_⟩
  have oN := s1.trans s2
  walk_at "gzn"
  refine ⟨a, b, c, ns, cs, e, t, u, d, m, f, rfl, oN.seq hS, hn, ah.of (s2 _ _ hb), sh, ah.of hc, cu, fun l xs ps H3 s3 _ hl hP hk hlen => ?_⟩
  have UW := oN.trans s3
  replace hb := (s2.trans s3) _ _ hb
  have t1 := sh.ht
  walk_at "gzn"
  refine aL (ah.of hb) (v := .int e) rfl (aL (ah.of hb) (v := .int t) rfl (aL (ah.of hb) (v := .int u) rfl (aL (ah.of hb) (v := .int d) rfl (aL (ah.of hb) (v := .int m) rfl ?_))))
  intro x dx hx UX UY
  have UZ : eB e t u d m := ⟨sh.he, sh.ht, sh.hu.1, sh.hd.1, sh.hm⟩
  have he := sh.he
  have hm := sh.hm
  refine ⟨x, dx, e, t, u, d, m, rfl, aq, fun z => absurd UZ z, fun _ p H4 KN s4 U0 U1 => ⟨rfl, ?_⟩⟩
  have z4 : aw H3 H4 := fun b o e => s4 b o (fun z => by rw [z, hx] at e; cases e) (PX hx UX UY _ _ e)
  have U4 := UW.trans z4
  have B4 : dU T.bf H4 x e t u d m p [] := ⟨⟨_, U0⟩, U1⟩
  replace hb := z4 _ _ hb
  replace hl := z4 _ _ hl
  replace hP := hP.same z4
  clear s4
  refine ⟨a, b, l, ns, e, t, u, d, m, f, xs, ps, rfl, U4.seq hS, hn, ah.of hb, sh, hl, hP, hlen, fun o ys qs H5 s5 _ ho hQ eN hql => ?_⟩
  refine ⟨x, p, o, e, t, u, d, m, ys, qs, rfl, B4.same s5, t1.1, t1.2, by omega, by omega, by omega, ah.of ho, hQ, by omega, eN, fun H6 s6 => ?_⟩
  have S6 := s5.trans s6
  walk_at "gzn"
  refine ⟨_, .inl (ah.of (S6 _ _ hl)), fun h hh => ?_⟩
  have u1 := au (o := .lst xs) hh
  have S7 := S6.trans u1
  refine ⟨x, p, h, e, t, u, d, m, xs, ps, rfl, B4.same S7, t1.1, t1.2, by omega, by omega, by omega, ah.of aq, hP.same S7, by omega, fun z => absurd hk z, fun _ v H8 s8 hA => ?_⟩
  have S8 := S7.trans s8
  have DP : Gd 3 (.list (ps.map zR)) := Gd.lst fun dd kr => by
   obtain ⟨p, hp, rfl⟩ := List.mem_map.mp kr
   exact PU (UT (hk p hp))
  walk_at "gzn"
  refine HL (.lst (ah.of (s8 _ _ aq)) (dG.zQ (fun _ _ r => eX.dat r) (hP.same S8))) (.lst (ah.of (S8 _ _ hl)) (dG.zQ (fun _ _ r => eX.dat r) (hP.same S8))) DP (by decide) ⟨_, rfl, ?_⟩
  rw [if_pos (by decide)]
  obtain ⟨⟨dx', bR⟩, cQ⟩ := id (B4.same S8)
  refine ⟨_, _, bR, rfl, x, p, e, t, u, d, m, rfl, B4.same S8, fun l9 H9 s9 _ Ba => ⟨Nat.zero_le _, fun l10 U6 => ?_⟩⟩
  have K3 := au (o := .lst []) U6
  refine HL (d := .list []) (n := 1) (.lst (ah.of (K3 _ _ Ba)) .nil) (.lst (ah.of aq) .nil) (.of rfl) (by decide) ⟨_, rfl, ?_⟩
  rw [if_pos (by decide)]
  intro w hw
  have U7 := au (o := .dT []) hw
  have W := s9.trans (K3.trans U7)
  have Bk := S8.trans W
  exact ⟨v, b, w, l, e, t, u, d, m, f, xs, ps, rfl, hA.same W, ah.of (Bk _ _ hb), sh, aq, ah.of (Bk _ _ hl), hP.same Bk, by omega, hk, by omega, fun H' _ => q H'⟩
end
theorem U8 {l : PySem.W.OpenLaw} {w : World} {K : PySem.W.Frag} {h : Heap} {mg : Str -> Option Value} {fa : Addr} (X : K.In h) (G : h.Ns mainGlobals mg) (U9 : mg "law" = some (.ref fa))
 {xr : Addr} {Va Vb : Option Addr} {Vc : Array (Option Value)} {Vd Ve Vf Vg K4 Vh : Value}
 {xt : Addr} {Vi Vj : Option Addr} {Vk : Array (Option Value)} {Vl Vm Vn Vo K5 Vp : Value}
 {xu : Addr} {Vq Vr : Option Addr} {Vs : Array (Option Value)} {Vt Vu Vv Vw K6 Vx : Value}
 {xw : Addr} {Vy Vz : Option Addr} {VA : Array (Option Value)} {VB VC VD VE K7 VF : Value}
 {xy : Addr} {VG VH : Option Addr} {VI : Array (Option Value)} {VJ VL VM VN K8 VO : Value}
 {xA : Addr} {VP VQ : Option Addr} {VR : Array (Option Value)} {VS VT VU VV K9 VW : Value}
 {xB : Addr} {VX VY : Option Addr} {VZ : Array (Option Value)} {V0 V1 V2 V3 La V4 : Value}
 {xC : Addr} {V5 V6 : Option Addr} {V7 : Array (Option Value)} {V8 V9 Wa Wb Lb Wc : Value}
 {xD : Addr} {Wd We : Option Addr} {Wf : Array (Option Value)} {Wg Wh Wi Wj Lc Wk : Value}
 {xE : Addr} {Wl Wm : Option Addr} {Wn : Array (Option Value)} {Wo Wq Wr Ws Ld Wt : Value}
 {xF : Addr} {Wu Wv : Option Addr} {Ww : Array (Option Value)} {Wx Wy Wz WA Le WB : Value}
 {xG : Addr} {WC WD : Option Addr} {WE : Array (Option Value)} {WG WH WI WJ Lf WK : Value}
 {xH : Addr} {WL WM : Option Addr} {WN : Array (Option Value)} {WO WQ WR WS Lg WT : Value}
 {xI : Addr} {WU WV : Option Addr} {WW : Array (Option Value)} {WX WY WZ W0 Lh W4 : Value}
 {xJ : Addr} {W5 W6 : Option Addr} {W7 : Array (Option Value)} {W8 W9 Xa Xb Li Xc : Value}
 {xK : Addr} {Xd Xe : Option Addr} {Xf : Array (Option Value)} {Xg Xi Xj Xk Lj Xl : Value}
 {xM : Addr} {Xm Xn : Option Addr} {Xo : Array (Option Value)} {Xq Xr Xs Xt Ll Xu : Value}
 {xN : Addr} {Xv Xw : Option Addr} {Xx : Array (Option Value)} {Xy Xz XA XB Lm XD : Value}
 {xO : Addr} {XE XF : Option Addr} {XG : Array (Option Value)} {XH XI XJ XM Ln XN : Value}
 {xP : Addr} {XO XQ : Option Addr} {XR : Array (Option Value)} {XS XT XU XW Lo XX : Value}
 {xQ : Addr} {XY XZ : Option Addr} {X5 : Array (Option Value)} {X6 X7 X9 Ya Lp Yb : Value}
 {xR : Addr} {Yc Yd : Option Addr} {Ye : Array (Option Value)} {Yf Yg Yh Yi Lq Yj : Value}
 {xS : Addr} {Yk Yl : Option Addr} {Ym : Array (Option Value)} {Yn Yo Yp Yq Lr Yr : Value}
 {xT : Addr} {Ys Yt : Option Addr} {Yu : Array (Option Value)} {Yv Yw Yx Yy Ls Yz : Value}
 {xU : Addr} {YA YB : Option Addr} {YC : Array (Option Value)} {YD YE YF YG Lu YH : Value}
 {xV : Addr} {YI YJ : Option Addr} {YK : Array (Option Value)} {YL YM YN YO Lv YQ : Value}
 {xW : Addr} {YR YS : Option Addr} {YT : Array (Option Value)} {YU YV YW YX Lw YY : Value}
 {xX : Addr} {YZ Y0 : Option Addr} {Y1 : Array (Option Value)} {Y2 Y3 Y4 Y5 Lx Y6 : Value}
 {rY : Addr} {Y7 Y8 : Option Addr} {Y9 : Array (Option Value)} {Za Zb Zc Zd Ly Ze : Value}
 {rZ : Addr} {Zf Zg : Option Addr} {Zh : Array (Option Value)} {Zi Zj Zk Zl Lz Zm : Value}
 {r6 : Addr} {Zn Zo : Option Addr} {Zp : Array (Option Value)} {Zq Zr Zs Zt LA Zu : Value}
 {xY : Addr} {Zv Zw : Option Addr} {Zx : Array (Option Value)} {Zy Zz ZA ZC LB ZD : Value}
 {xZ : Addr} {ZE ZF : Option Addr} {ZG : Array (Option Value)} {ZH ZI ZJ ZK LC ZL : Value}
 {x2 : Addr} {ZM ZN : Option Addr} {ZO : Array (Option Value)} {ZP ZQ ZR ZS LD ZT : Value}
 {x3 : Addr} {ZU ZV : Option Addr} {ZW : Array (Option Value)} {ZX ZY ZZ Z0 LF Z1 : Value}
 {x4 : Addr} {Z2 Z3 : Option Addr} {Z4 : Array (Option Value)} {Z5 Z6 Z7 Z8 LG Z9 : Value}
 {x5 : Addr} {aaa aab : Option Addr} {aac : Array (Option Value)} {aad aae aaf aag LH aah : Value}
 {x6 : Addr} {aai aaj : Option Addr} {aak : Array (Option Value)} {aal aam aan aao LI aap : Value}
 {x8 : Addr} {aaq aar : Option Addr} {aas : Array (Option Value)} {aat aau aav aaw LJ aax : Value}
 {x9 : Addr} {aay aaz : Option Addr} {aaA : Array (Option Value)} {aaB aaC aaD aaE LK aaF : Value}
 {ya : Addr} {aaG aaH : Option Addr} {aaI : Array (Option Value)} {aaJ aaK aaL aaM LL aaN : Value}
 {yb : Addr} {aaO aaP : Option Addr} {aaQ : Array (Option Value)} {aaR aaS aaT aaU LM aaV : Value}
 {yc : Addr} {aaW aaX : Option Addr} {aaY : Array (Option Value)} {aaZ aa0 aa1 aa2 LN aa3 : Value}
 {yd : Addr} {aa4 aa5 : Option Addr} {aa6 : Array (Option Value)} {aa7 aa8 aa9 aba LO abb : Value}
 {ye : Addr} {abc abd : Option Addr} {abe : Array (Option Value)} {abf abg abh abi LP abj : Value}
 {yf : Addr} {abk abl : Option Addr} {abm : Array (Option Value)} {abn abo abp abq LQ abr : Value}
 {yg : Addr} {abt abu : Option Addr} {abv : Array (Option Value)} {abw abx aby abz LR abA : Value}
 {yh : Addr} {abB abC : Option Addr} {abD : Array (Option Value)} {abE abF abG abH LS abI : Value}
 {yi : Addr} {abJ abK : Option Addr} {abL : Array (Option Value)} {abM abN abO abP LU abQ : Value}
 {yj : Addr} {abR abS : Option Addr} {abT : Array (Option Value)} {abU abV abW abX LV abY : Value}
 {yk : Addr} {abZ ab0 : Option Addr} {ab1 : Array (Option Value)} {ab2 ab3 ab4 ab5 LW ab6 : Value}
 {ym : Addr} {ab7 ab8 : Option Addr} {ab9 : Array (Option Value)} {aca acb acd ace LX acf : Value}
 {yn : Addr} {acg ach : Option Addr} {aci : Array (Option Value)} {acj ack acm acn LY aco : Value}
 {Bl : Addr} {acp Bm : Option Addr} {acq : Array (Option Value)} {acr Bn Bo Bp yo Bq : Value}
 {gj : Addr}
 {jD : Addr}
 {jE : Addr}
 {jF : Addr}
 {jG : Addr}
 {jH : Addr}
 {cZ : Addr}
 {dH : Addr}
 {aU : Addr}
 {jI : Addr}
 {jJ : Addr}
 {jK : Addr}
 {jL : Addr}
 {jM : Addr}
 {jN : Addr}
 {bf : Addr}
 {acs : ClassData}
 {acu : Tok}
 {acv : Tok}
 (iD : PySem.W.nsIn K mainGlobals "is_crossed" = some (some (.ref xr))) (Br : K.lookup xr = some ⟨Vd, Va, .func (PySem.W.fnOf "is_crossed" "is_crossed" (aP mh) (aM mh) (ax mh) .none Ve Vf Vg Vb K4 Vh), Vc⟩) (Bs : PySem.W.codeIn K K4 "is_crossed" = true) (Bu : PySem.W.keepIn K (.ref xr) = true)
 (iE : PySem.W.nsIn K mainGlobals "meet" = some (some (.ref xt))) (Bv : K.lookup xt = some ⟨Vl, Vi, .func (PySem.W.fnOf "meet" "meet" (aP mi) (aM mi) (ax mi) .none Vm Vn Vo Vj K5 Vp), Vk⟩) (Bw : PySem.W.codeIn K K5 "meet" = true) (Bx : PySem.W.keepIn K (.ref xt) = true)
 (iG : PySem.W.nsIn K mainGlobals "common" = some (some (.ref xu))) (By : K.lookup xu = some ⟨Vt, Vq, .func (PySem.W.fnOf "common" "common" (aP mj) (aM mj) (ax mj) .none Vu Vv Vw Vr K6 Vx), Vs⟩) (Bz : PySem.W.codeIn K K6 "common" = true) (BA : PySem.W.keepIn K (.ref xu) = true)
 (iI : PySem.W.nsIn K mainGlobals "number_in" = some (some (.ref xw))) (BB : K.lookup xw = some ⟨VB, Vy, .func (PySem.W.fnOf "number_in" "number_in" (aP ml) (aM ml) (ax ml) .none VC VD VE Vz K7 VF), VA⟩) (BC : PySem.W.codeIn K K7 "number_in" = true) (BD : PySem.W.keepIn K (.ref xw) = true)
 (iJ : PySem.W.nsIn K mainGlobals "moved" = some (some (.ref xy))) (BE : K.lookup xy = some ⟨VJ, VG, .func (PySem.W.fnOf "moved" "moved" (aP mn) (aM mn) (ax mn) .none VL VM VN VH K8 VO), VI⟩) (BF : PySem.W.codeIn K K8 "moved" = true) (BG : PySem.W.keepIn K (.ref xy) = true)
 (iK : PySem.W.nsIn K mainGlobals "narrowed" = some (some (.ref xA))) (BH : K.lookup xA = some ⟨VS, VP, .func (PySem.W.fnOf "narrowed" "narrowed" (aP mq) (aM mq) (ax mq) .none VT VU VV VQ K9 VW), VR⟩) (BI : PySem.W.codeIn K K9 "narrowed" = true) (BJ : PySem.W.keepIn K (.ref xA) = true)
 (iL : PySem.W.nsIn K mainGlobals "stretches_at" = some (some (.ref xB))) (BK : K.lookup xB = some ⟨V0, VX, .func (PySem.W.fnOf "stretches_at" "stretches_at" (aP mr) (aM mr) (ax mr) .none V1 V2 V3 VY La V4), VZ⟩) (BL : PySem.W.codeIn K La "stretches_at" = true) (BM : PySem.W.keepIn K (.ref xB) = true)
 (iM : PySem.W.nsIn K mainGlobals "tube" = some (some (.ref xC))) (BN : K.lookup xC = some ⟨V8, V5, .func (PySem.W.fnOf "tube" "tube" (aP mv) (aM mv) (ax mv) .none V9 Wa Wb V6 Lb Wc), V7⟩) (BO : PySem.W.codeIn K Lb "tube" = true) (BP : PySem.W.keepIn K (.ref xC) = true)
 (iN : PySem.W.nsIn K mainGlobals "course_in" = some (some (.ref xD))) (BQ : K.lookup xD = some ⟨Wg, Wd, .func (PySem.W.fnOf "course_in" "course_in" (aP mw) (aM mw) (ax mw) .none Wh Wi Wj We Lc Wk), Wf⟩) (BR : PySem.W.codeIn K Lc "course_in" = true) (BS : PySem.W.keepIn K (.ref xD) = true)
 (iO : PySem.W.nsIn K mainGlobals "lesser" = some (some (.ref xE))) (BU : K.lookup xE = some ⟨Wo, Wl, .func (PySem.W.fnOf "lesser" "lesser" (aP mx) (aM mx) (ax mx) .none Wq Wr Ws Wm Ld Wt), Wn⟩) (BV : PySem.W.codeIn K Ld "lesser" = true) (BW : PySem.W.keepIn K (.ref xE) = true)
 (iQ : PySem.W.nsIn K mainGlobals "lifted" = some (some (.ref xF))) (BX : K.lookup xF = some ⟨Wx, Wu, .func (PySem.W.fnOf "lifted" "lifted" (aP my) (aM my) (ax my) .none Wy Wz WA Wv Le WB), Ww⟩) (BY : PySem.W.codeIn K Le "lifted" = true) (BZ : PySem.W.keepIn K (.ref xF) = true)
 (iR : PySem.W.nsIn K mainGlobals "ceilings" = some (some (.ref xG))) (B0 : K.lookup xG = some ⟨WG, WC, .func (PySem.W.fnOf "ceilings" "ceilings" (aP mz) (aM mz) (ax mz) .none WH WI WJ WD Lf WK), WE⟩) (B3 : PySem.W.codeIn K Lf "ceilings" = true) (B5 : PySem.W.keepIn K (.ref xG) = true)
 (iS : PySem.W.nsIn K mainGlobals "crossing" = some (some (.ref xH))) (B6 : K.lookup xH = some ⟨WO, WL, .func (PySem.W.fnOf "crossing" "crossing" (aP mB) (aM mB) (ax mB) .none WQ WR WS WM Lg WT), WN⟩) (B7 : PySem.W.codeIn K Lg "crossing" = true) (B8 : PySem.W.keepIn K (.ref xH) = true)
 (iT : PySem.W.nsIn K mainGlobals "has_part" = some (some (.ref xI))) (B9 : K.lookup xI = some ⟨WX, WU, .func (PySem.W.fnOf "has_part" "has_part" (aP mC) (aM mC) (ax mC) .none WY WZ W0 WV Lh W4), WW⟩) (Ca : PySem.W.codeIn K Lh "has_part" = true) (Cb : PySem.W.keepIn K (.ref xI) = true)
 (iU : PySem.W.nsIn K mainGlobals "check_claim" = some (some (.ref xJ))) (Cc : K.lookup xJ = some ⟨W8, W5, .func (PySem.W.fnOf "check_claim" "check_claim" (aP mD) (aM mD) (ax mD) .none W9 Xa Xb W6 Li Xc), W7⟩) (Cd : PySem.W.codeIn K Li "check_claim" = true) (Ce : PySem.W.keepIn K (.ref xJ) = true)
 (iV : PySem.W.nsIn K mainGlobals "stretches_of" = some (some (.ref xK))) (Cf : K.lookup xK = some ⟨Xg, Xd, .func (PySem.W.fnOf "stretches_of" "stretches_of" (aP mE) (aM mE) (ax mE) .none Xi Xj Xk Xe Lj Xl), Xf⟩) (Cg : PySem.W.codeIn K Lj "stretches_of" = true) (Ci : PySem.W.keepIn K (.ref xK) = true)
 (iW : PySem.W.nsIn K mainGlobals "paces" = some (some (.ref xM))) (Cj : K.lookup xM = some ⟨Xq, Xm, .func (PySem.W.fnOf "paces" "paces" (aP mF) (aM mF) (ax mF) .none Xr Xs Xt Xn Ll Xu), Xo⟩) (Ck : PySem.W.codeIn K Ll "paces" = true) (Cm : PySem.W.keepIn K (.ref xM) = true)
 (iX : PySem.W.nsIn K mainGlobals "wanted" = some (some (.ref xN))) (Cn : K.lookup xN = some ⟨Xy, Xv, .func (PySem.W.fnOf "wanted" "wanted" (aP mG) (aM mG) (ax mG) .none Xz XA XB Xw Lm XD), Xx⟩) (Co : PySem.W.codeIn K Lm "wanted" = true) (Cp : PySem.W.keepIn K (.ref xN) = true)
 (iY : PySem.W.nsIn K mainGlobals "marks_of" = some (some (.ref xO))) (Cq : K.lookup xO = some ⟨XH, XE, .func (PySem.W.fnOf "marks_of" "marks_of" (aP mH) (aM mH) (ax mH) .none XI XJ XM XF Ln XN), XG⟩) (Cr : PySem.W.codeIn K Ln "marks_of" = true) (Cs : PySem.W.keepIn K (.ref xO) = true)
 (iZ : PySem.W.nsIn K mainGlobals "marks_without" = some (some (.ref xP))) (Ct : K.lookup xP = some ⟨XS, XO, .func (PySem.W.fnOf "marks_without" "marks_without" (aP mI) (aM mI) (ax mI) .none XT XU XW XQ Lo XX), XR⟩) (Cu : PySem.W.codeIn K Lo "marks_without" = true) (Cv : PySem.W.keepIn K (.ref xP) = true)
 (i0 : PySem.W.nsIn K mainGlobals "groups_of" = some (some (.ref xQ))) (Cw : K.lookup xQ = some ⟨X6, XY, .func (PySem.W.fnOf "groups_of" "groups_of" (aP mJ) (aM mJ) (ax mJ) .none X7 X9 Ya XZ Lp Yb), X5⟩) (Cy : PySem.W.codeIn K Lp "groups_of" = true) (Cz : PySem.W.keepIn K (.ref xQ) = true)
 (i3 : PySem.W.nsIn K mainGlobals "clashes" = some (some (.ref xR))) (CA : K.lookup xR = some ⟨Yf, Yc, .func (PySem.W.fnOf "clashes" "clashes" (aP mK) (aM mK) (ax mK) .none Yg Yh Yi Yd Lq Yj), Ye⟩) (CB : PySem.W.codeIn K Lq "clashes" = true) (CC : PySem.W.keepIn K (.ref xR) = true)
 (kH : PySem.W.nsIn K mainGlobals "without" = some (some (.ref xS))) (CD : K.lookup xS = some ⟨Yn, Yk, .func (PySem.W.fnOf "without" "without" (aP qZ) (aM qZ) (ax qZ) .none Yo Yp Yq Yl Lr Yr), Ym⟩) (CF : PySem.W.codeIn K Lr "without" = true) (CG : PySem.W.keepIn K (.ref xS) = true)
 (i4 : PySem.W.nsIn K mainGlobals "eyes_of" = some (some (.ref xT))) (CH : K.lookup xT = some ⟨Yv, Ys, .func (PySem.W.fnOf "eyes_of" "eyes_of" (aP mL) (aM mL) (ax mL) .none Yw Yx Yy Yt Ls Yz), Yu⟩) (CI : PySem.W.codeIn K Ls "eyes_of" = true) (CJ : PySem.W.keepIn K (.ref xT) = true)
 (i5 : PySem.W.nsIn K mainGlobals "put_aside" = some (some (.ref xU))) (CK : K.lookup xU = some ⟨YD, YA, .func (PySem.W.fnOf "put_aside" "put_aside" (aP mM) (aM mM) (ax mM) .none YE YF YG YB Lu YH), YC⟩) (CL : PySem.W.codeIn K Lu "put_aside" = true) (CM : PySem.W.keepIn K (.ref xU) = true)
 (i6 : PySem.W.nsIn K mainGlobals "branch" = some (some (.ref xV))) (CN : K.lookup xV = some ⟨YL, YI, .func (PySem.W.fnOf "branch" "branch" (aP mO) (aM mO) (ax mO) .none YM YN YO YJ Lv YQ), YK⟩) (CO : PySem.W.codeIn K Lv "branch" = true) (CP : PySem.W.keepIn K (.ref xV) = true)
 (i7 : PySem.W.nsIn K mainGlobals "paper" = some (some (.ref xW))) (CQ : K.lookup xW = some ⟨YU, YR, .func (PySem.W.fnOf "paper" "paper" (aP mP) (aM mP) (ax mP) .none YV YW YX YS Lw YY), YT⟩) (CS : PySem.W.codeIn K Lw "paper" = true) (CT : PySem.W.keepIn K (.ref xW) = true)
 (i8 : PySem.W.nsIn K mainGlobals "ask" = some (some (.ref xX))) (CU : K.lookup xX = some ⟨Y2, YZ, .func (PySem.W.fnOf "ask" "ask" (aP mQ) (aM mQ) (ax mQ) .none Y3 Y4 Y5 Y0 Lx Y6), Y1⟩) (CV : PySem.W.codeIn K Lx "ask" = true) (CW : PySem.W.keepIn K (.ref xX) = true)
 (i9 : PySem.W.findIn K (.ref bf) "__init__" = some (some (.ref rY))) (CY : K.lookup rY = some ⟨Za, Y7, .func (PySem.W.fnOf "__init__" "Board.__init__" (aP mR) (aM mR) (ax mR) .none Zb Zc Zd Y8 Ly Ze), Y9⟩) (CZ : PySem.W.codeIn K Ly "Board.__init__" = true) (C0 : PySem.W.keepIn K (.ref rY) = true)
 (ja : PySem.W.findIn K (.ref bf) "has_turn" = some (some (.ref rZ))) (C1 : K.lookup rZ = some ⟨Zi, Zf, .func (PySem.W.fnOf "has_turn" "Board.has_turn" (aP mS) (aM mS) (ax mS) .none Zj Zk Zl Zg Lz Zm), Zh⟩) (C2 : PySem.W.codeIn K Lz "Board.has_turn" = true) (yq : PySem.W.keepIn K (.ref rZ) = true)
 (jb : PySem.W.findIn K (.ref bf) "tellings" = some (some (.ref r6))) (C3 : K.lookup r6 = some ⟨Zq, Zn, .func (PySem.W.fnOf "tellings" "Board.tellings" (aP mT) (aM mT) (ax mT) .none Zr Zs Zt Zo LA Zu), Zp⟩) (C4 : PySem.W.codeIn K LA "Board.tellings" = true) (yr : PySem.W.keepIn K (.ref r6) = true)
 (jc : PySem.W.nsIn K mainGlobals "_law_pick" = some (some (.ref xY))) (C5 : K.lookup xY = some ⟨Zy, Zv, .func (PySem.W.fnOf "_law_pick" "_law_pick" (aP mU) (aM mU) (ax mU) .none Zz ZA ZC Zw LB ZD), Zx⟩) (C6 : PySem.W.codeIn K LB "_law_pick" = true) (C7 : PySem.W.keepIn K (.ref xY) = true)
 (jd : PySem.W.nsIn K mainGlobals "_law_wide" = some (some (.ref xZ))) (C8 : K.lookup xZ = some ⟨ZH, ZE, .func (PySem.W.fnOf "_law_wide" "_law_wide" (aP mV) (aM mV) (ax mV) .none ZI ZJ ZK ZF LC ZL), ZG⟩) (C9 : PySem.W.codeIn K LC "_law_wide" = true) (Dc : PySem.W.keepIn K (.ref xZ) = true)
 (je : PySem.W.nsIn K mainGlobals "_law_shape" = some (some (.ref x2))) (Dd : K.lookup x2 = some ⟨ZP, ZM, .func (PySem.W.fnOf "_law_shape" "_law_shape" (aP mW) (aM mW) (ax mW) .none ZQ ZR ZS ZN LD ZT), ZO⟩) (De : PySem.W.codeIn K LD "_law_shape" = true) (Df : PySem.W.keepIn K (.ref x2) = true)
 (jf : PySem.W.nsIn K mainGlobals "_law_course" = some (some (.ref x3))) (Dg : K.lookup x3 = some ⟨ZX, ZU, .func (PySem.W.fnOf "_law_course" "_law_course" (aP mX) (aM mX) (ax mX) .none ZY ZZ Z0 ZV LF Z1), ZW⟩) (Dh : PySem.W.codeIn K LF "_law_course" = true) (Di : PySem.W.keepIn K (.ref x3) = true)
 (jg : PySem.W.nsIn K mainGlobals "_law_word" = some (some (.ref x4))) (Dj : K.lookup x4 = some ⟨Z5, Z2, .func (PySem.W.fnOf "_law_word" "_law_word" (aP mY) (aM mY) (ax mY) .none Z6 Z7 Z8 Z3 LG Z9), Z4⟩) (Dk : PySem.W.codeIn K LG "_law_word" = true) (Dl : PySem.W.keepIn K (.ref x4) = true)
 (jh : PySem.W.nsIn K mainGlobals "_law_in" = some (some (.ref x5))) (Dm : K.lookup x5 = some ⟨aad, aaa, .func (PySem.W.fnOf "_law_in" "_law_in" (aP mZ) (aM mZ) (ax mZ) .none aae aaf aag aab LH aah), aac⟩) (Dp : PySem.W.codeIn K LH "_law_in" = true) (Dq : PySem.W.keepIn K (.ref x5) = true)
 (ji : PySem.W.nsIn K mainGlobals "_law_whole" = some (some (.ref x6))) (Dr : K.lookup x6 = some ⟨aal, aai, .func (PySem.W.fnOf "_law_whole" "_law_whole" (aP m4) (aM m4) (ax m4) .none aam aan aao aaj LI aap), aak⟩) (Ds : PySem.W.codeIn K LI "_law_whole" = true) (Dt : PySem.W.keepIn K (.ref x6) = true)
 (jm : PySem.W.nsIn K mainGlobals "_law_common" = some (some (.ref x8))) (Du : K.lookup x8 = some ⟨aat, aaq, .func (PySem.W.fnOf "_law_common" "_law_common" (aP m5) (aM m5) (ax m5) .none aau aav aaw aar LJ aax), aas⟩) (Dv : PySem.W.codeIn K LJ "_law_common" = true) (Dw : PySem.W.keepIn K (.ref x8) = true)
 (jn : PySem.W.nsIn K mainGlobals "_law_steps" = some (some (.ref x9))) (Dx : K.lookup x9 = some ⟨aaB, aay, .func (PySem.W.fnOf "_law_steps" "_law_steps" (aP m6) (aM m6) (ax m6) .none aaC aaD aaE aaz LK aaF), aaA⟩) (Dy : PySem.W.codeIn K LK "_law_steps" = true) (Dz : PySem.W.keepIn K (.ref x9) = true)
 (jo : PySem.W.nsIn K mainGlobals "_law_goals" = some (some (.ref ya))) (DA : K.lookup ya = some ⟨aaJ, aaG, .func (PySem.W.fnOf "_law_goals" "_law_goals" (aP m7) (aM m7) (ax m7) .none aaK aaL aaM aaH LL aaN), aaI⟩) (DB : PySem.W.codeIn K LL "_law_goals" = true) (DC : PySem.W.keepIn K (.ref ya) = true)
 (jq : PySem.W.nsIn K mainGlobals "_law_liars" = some (some (.ref yb))) (DD : K.lookup yb = some ⟨aaR, aaO, .func (PySem.W.fnOf "_law_liars" "_law_liars" (aP m8) (aM m8) (ax m8) .none aaS aaT aaU aaP LM aaV), aaQ⟩) (DE : PySem.W.codeIn K LM "_law_liars" = true) (DF : PySem.W.keepIn K (.ref yb) = true)
 (jr : PySem.W.nsIn K mainGlobals "_law_met" = some (some (.ref yc))) (DG : K.lookup yc = some ⟨aaZ, aaW, .func (PySem.W.fnOf "_law_met" "_law_met" (aP m9) (aM m9) (ax m9) .none aa0 aa1 aa2 aaX LN aa3), aaY⟩) (DH : PySem.W.codeIn K LN "_law_met" = true) (DI : PySem.W.keepIn K (.ref yc) = true)
 (jt : PySem.W.nsIn K mainGlobals "_law_walked" = some (some (.ref yd))) (DJ : K.lookup yd = some ⟨aa7, aa4, .func (PySem.W.fnOf "_law_walked" "_law_walked" (aP nc) (aM nc) (ax nc) .none aa8 aa9 aba aa5 LO abb), aa6⟩) (DK : PySem.W.codeIn K LO "_law_walked" = true) (DL : PySem.W.keepIn K (.ref yd) = true)
 (ju : PySem.W.nsIn K mainGlobals "_law_rise" = some (some (.ref ye))) (DM : K.lookup ye = some ⟨abf, abc, .func (PySem.W.fnOf "_law_rise" "_law_rise" (aP ng) (aM ng) (ax ng) .none abg abh abi abd LP abj), abe⟩) (DN : PySem.W.codeIn K LP "_law_rise" = true) (DO : PySem.W.keepIn K (.ref ye) = true)
 (jv : PySem.W.nsIn K mainGlobals "_law_clash" = some (some (.ref yf))) (DQ : K.lookup yf = some ⟨abn, abk, .func (PySem.W.fnOf "_law_clash" "_law_clash" (aP nh) (aM nh) (ax nh) .none abo abp abq abl LQ abr), abm⟩) (DR : PySem.W.codeIn K LQ "_law_clash" = true) (DS : PySem.W.keepIn K (.ref yf) = true)
 (jw : PySem.W.nsIn K mainGlobals "_law_mark" = some (some (.ref yg))) (DT : K.lookup yg = some ⟨abw, abt, .func (PySem.W.fnOf "_law_mark" "_law_mark" (aP ni) (aM ni) (ax ni) .none abx aby abz abu LR abA), abv⟩) (DU : PySem.W.codeIn K LR "_law_mark" = true) (DV : PySem.W.keepIn K (.ref yg) = true)
 (jx : PySem.W.nsIn K mainGlobals "_law_beyond" = some (some (.ref yh))) (DW : K.lookup yh = some ⟨abE, abB, .func (PySem.W.fnOf "_law_beyond" "_law_beyond" (aP nj) (aM nj) (ax nj) .none abF abG abH abC LS abI), abD⟩) (DX : PySem.W.codeIn K LS "_law_beyond" = true) (DY : PySem.W.keepIn K (.ref yh) = true)
 (jy : PySem.W.nsIn K mainGlobals "_law_refutes" = some (some (.ref yi))) (DZ : K.lookup yi = some ⟨abM, abJ, .func (PySem.W.fnOf "_law_refutes" "_law_refutes" (aP nk) (aM nk) (ax nk) .none abN abO abP abK LU abQ), abL⟩) (D0 : PySem.W.codeIn K LU "_law_refutes" = true) (D1 : PySem.W.keepIn K (.ref yi) = true)
 (jz : PySem.W.nsIn K mainGlobals "_law_right" = some (some (.ref yj))) (D2 : K.lookup yj = some ⟨abU, abR, .func (PySem.W.fnOf "_law_right" "_law_right" (aP nq) (aM nq) (ax nq) .none abV abW abX abS LV abY), abT⟩) (D3 : PySem.W.codeIn K LV "_law_right" = true) (D4 : PySem.W.keepIn K (.ref yj) = true)
 (jA : PySem.W.nsIn K mainGlobals "_law_parts" = some (some (.ref yk))) (D5 : K.lookup yk = some ⟨ab2, abZ, .func (PySem.W.fnOf "_law_parts" "_law_parts" (aP nr) (aM nr) (ax nr) .none ab3 ab4 ab5 ab0 LW ab6), ab1⟩) (D6 : PySem.W.codeIn K LW "_law_parts" = true) (D7 : PySem.W.keepIn K (.ref yk) = true)
 (jB : PySem.W.nsIn K mainGlobals "_law_odd" = some (some (.ref ym))) (D8 : K.lookup ym = some ⟨aca, ab7, .func (PySem.W.fnOf "_law_odd" "_law_odd" (aP nu) (aM nu) (ax nu) .none acb acd ace ab8 LX acf), ab9⟩) (D9 : PySem.W.codeIn K LX "_law_odd" = true) (Ea : PySem.W.keepIn K (.ref ym) = true)
 (jC : PySem.W.nsIn K mainGlobals "_law_refused" = some (some (.ref yn))) (Eb : K.lookup yn = some ⟨acj, acg, .func (PySem.W.fnOf "_law_refused" "_law_refused" (aP nv) (aM nv) (ax nv) .none ack acm acn ach LY aco), aci⟩) (Ec : PySem.W.codeIn K LY "_law_refused" = true) (Ed : PySem.W.keepIn K (.ref yn) = true)
 (gi : PySem.W.nsIn K mainGlobals "law" = some (some (.ref Bl))) (Ee : K.lookup Bl = some ⟨acr, acp, .func (PySem.W.fnOf "law" "law" (aP e9) (aM e9) (ax e9) .none Bn Bo Bp Bm yo Bq), acq⟩) (Ef : PySem.W.codeIn K yo "law" = true) (Eg : PySem.W.keepIn K (.ref Bl) = true)
 (Eh : PySem.W.nsIn K mainGlobals "ValueError" = some none)
 (Ei : PySem.W.nsIn K mainGlobals "bool" = some none)
 (Ej : PySem.W.nsIn K mainGlobals "enumerate" = some none)
 (Ek : PySem.W.nsIn K mainGlobals "int" = some none)
 (El : PySem.W.nsIn K mainGlobals "isinstance" = some none)
 (Em : PySem.W.nsIn K mainGlobals "len" = some none)
 (Eo : PySem.W.nsIn K mainGlobals "list" = some none)
 (Ep : PySem.W.nsIn K mainGlobals "max" = some none)
 (Er : PySem.W.nsIn K mainGlobals "min" = some none)
 (Es : PySem.W.nsIn K mainGlobals "range" = some none)
 (Et : PySem.W.nsIn K mainGlobals "reversed" = some none)
 (Eu : PySem.W.nsIn K mainGlobals "set" = some none)
 (Ew : PySem.W.nsIn K mainGlobals "sorted" = some none)
 (Ex : PySem.W.nsIn K mainGlobals "tuple" = some none)
 (Ey : PySem.W.nsIn K mainGlobals "zip" = some none)
 (Ez : PySem.W.nsIn K mainGlobals "GazeError" = some (some (.ref gj)))
 (EA : PySem.W.nsIn K mainGlobals "NoRatio" = some (some (.ref jD)))
 (EB : PySem.W.nsIn K mainGlobals "NoStretch" = some (some (.ref jE)))
 (EC : PySem.W.nsIn K mainGlobals "NoGauge" = some (some (.ref jF)))
 (ED : PySem.W.nsIn K mainGlobals "OffGauge" = some (some (.ref jG)))
 (EE : PySem.W.nsIn K mainGlobals "NoSills" = some (some (.ref jH)))
 (EF : PySem.W.nsIn K mainGlobals "NoBoard" = some (some (.ref cZ)))
 (EG : PySem.W.nsIn K mainGlobals "NoTelling" = some (some (.ref dH)))
 (EH : PySem.W.nsIn K mainGlobals "NoClaim" = some (some (.ref aU)))
 (EI : PySem.W.nsIn K mainGlobals "NoEvent" = some (some (.ref jI)))
 (EJ : PySem.W.nsIn K mainGlobals "TooMany" = some (some (.ref jJ)))
 (EK : PySem.W.nsIn K mainGlobals "NoRule" = some (some (.ref jK)))
 (EL : PySem.W.nsIn K mainGlobals "NoAlarm" = some (some (.ref jL)))
 (EM : PySem.W.nsIn K mainGlobals "NoRow" = some (some (.ref jM)))
 (EN : PySem.W.nsIn K mainGlobals "NoName" = some (some (.ref jN)))
 (EO : PySem.W.nsIn K mainGlobals "Board" = some (some (.ref bf)))
 (ER : PySem.W.plainGet K bf Str.empty = true) (ES : PySem.W.hasDictIn K bf = true) (ET : PySem.W.plainOver K bf = true) (EU : PySem.W.findIn K (.ref bf) "__setattr__" = some (some (.builtin "object.__setattr__")))
 (kO : PySem.W.findIn K (.ref bf) "eyes" = some none)
 (gM : PySem.W.findIn K (.ref bf) "turns" = some none)
 (kP : PySem.W.findIn K (.ref bf) "up" = some none)
 (kQ : PySem.W.findIn K (.ref bf) "down" = some none)
 (gN : PySem.W.findIn K (.ref bf) "most" = some none)
 (kR : PySem.W.findIn K (.ref bf) "told" = some none)
 (EV : PySem.W.isFn K (.ref rY) = true)
 (oG : PySem.W.makesIn K bf = true) (EW : PySem.W.keepIn K (.ref bf) = true)
 (EX : PySem.W.isFn K (.ref rZ) = true)
 (EY : PySem.W.isFn K (.ref r6) = true)
 (EZ : PySem.W.excIn K cZ [.type "ValueError", .type "Exception", .type "BaseException", .type "object"] "ValueError.__new__" = true)
 (E1 : PySem.W.mroIn K cZ (.type "object") = some true)
 (E2 : PySem.W.mroIn K cZ (.type "BaseException") = some true)
 (E3 : PySem.W.findIn K (.ref cZ) "__getattribute__" = some (some (.builtin "BaseException.__getattribute__")))
 (E4 : PySem.W.findIn K (.ref cZ) "__getattr__" = some none)
 (E5 : PySem.W.findIn K (.ref cZ) "__class__" = some (some (.builtin "object.__class__")))
 (E6 : PySem.W.excIn K dH [.type "ValueError", .type "Exception", .type "BaseException", .type "object"] "ValueError.__new__" = true)
 (E7 : PySem.W.mroIn K dH (.type "object") = some true)
 (E8 : PySem.W.mroIn K dH (.type "BaseException") = some true)
 (E9 : PySem.W.findIn K (.ref dH) "__getattribute__" = some (some (.builtin "BaseException.__getattribute__")))
 (Fb : PySem.W.findIn K (.ref dH) "__getattr__" = some none)
 (Fc : PySem.W.findIn K (.ref dH) "__class__" = some (some (.builtin "object.__class__")))
 (Fd : PySem.W.excIn K aU [.type "ValueError", .type "Exception", .type "BaseException", .type "object"] "ValueError.__new__" = true)
 (Fe : PySem.W.mroIn K aU (.type "object") = some true)
 (Ff : PySem.W.mroIn K aU (.type "BaseException") = some true)
 (Fg : PySem.W.findIn K (.ref aU) "__getattribute__" = some (some (.builtin "BaseException.__getattribute__")))
 (Fh : PySem.W.findIn K (.ref aU) "__getattr__" = some none)
 (Fi : PySem.W.findIn K (.ref aU) "__class__" = some (some (.builtin "object.__class__")))
 (Fj : PySem.W.clsIn K gj = some acs)
 (Fl : PySem.W.typeIn K (.ref gj) = some (.type "type"))
 (Fm : PySem.W.subIn K (.ref gj) (.type "BaseException") = some true)
 (Fn : PySem.W.subIn K (.ref aU) (.ref gj) = some true)
 (Fo : PySem.W.kitOne K (.ref aU) (.ref aU) = some true)
 (Fp : PySem.W.kitOne K (.ref aU) (.type "ValueError") = some true)
 (Fq : PySem.W.kitOne K (.ref aU) (.ref dH) = some false)
 (Fs : PySem.W.kitOne K (.ref aU) (.ref jN) = some false)
 (Ft : PySem.W.kitOne K (.ref aU) (.ref jE) = some false)
 (Fu : PySem.W.kitOne K (.ref aU) (.ref cZ) = some false)
 (Fv : PySem.W.kitOne K (.ref aU) (.ref jI) = some false)
 (Fw : PySem.W.kitOne K (.ref aU) (.ref jM) = some false)
 (Fx : PySem.W.kitOne K (.ref aU) (.ref jD) = some false)
 (Fy : PySem.W.kitOne K (.ref aU) (.ref jF) = some false)
 (Fz : PySem.W.kitOne K (.ref aU) (.ref jG) = some false)
 (FA : PySem.W.kitOne K (.ref aU) (.ref jK) = some false)
 (FC : PySem.W.kitOne K (.ref aU) (.ref jH) = some false)
 (FD : PySem.W.kitOne K (.ref aU) (.ref jJ) = some false)
 (FE : PySem.W.kitOne K (.ref aU) (.ref jL) = some false)
 (FF : PySem.W.nsIn K mainGlobals "EYES_AT_MOST" = some (some (.int 7 acu)))
 (FG : PySem.W.nsIn K mainGlobals "TURNS_AT_MOST" = some (some (.int 12 acv)))
 : ∃ fd : FuncData, (∀ (s : Shared) (v : Value), BindsTo s fd ⟨[v], []⟩ [("_law_script", v)]) /\ ∀ base : Heap, K.In base -> base.Ns mainGlobals mg -> aJ l.prog w K mg base (aK l.prog w) 8 fa fd ["_law_script"] (xq K) := by
 have e := U9.symm.trans (PySem.W.mg_of X G gi)
 cases e
 have nE := aV (st := mh) Br Bs Bu
 have uS := nE.binds (ps := ["lo", "hi"]) fun _ _ _ _ _ _ us hl => match us, hl with | [_, _], _ => rfl
 have iF := aV (st := mi) Bv Bw Bx
 have nF := iF.binds (ps := ["one", "other"]) fun _ _ _ _ _ _ us hl => match us, hl with | [_, _], _ => rfl
 have iH := aV (st := mj) By Bz BA
 have nG := iH.binds (ps := ["some"]) fun _ _ _ _ _ _ us hl => match us, hl with | [_], _ => rfl
 have kB := aV (st := ml) BB BC BD
 have rg := kB.binds (ps := ["cell"]) fun _ _ _ _ _ _ us hl => match us, hl with | [_], _ => rfl
 have kC := aV (st := mn) BE BF BG
 have rh := kC.binds (ps := ["one", "step"]) fun _ _ _ _ _ _ us hl => match us, hl with | [_, _], _ => rfl
 have kD := aV (st := mq) BH BI BJ
 have rk := kD.binds (ps := ["boxes", "steps"]) fun _ _ _ _ _ _ us hl => match us, hl with | [_, _], _ => rfl
 have nH := aV (st := mr) BK BL BM
 have va := nH.binds (ps := ["marks", "turn"]) fun _ _ _ _ _ _ us hl => match us, hl with | [_, _], _ => rfl
 have nI := aV (st := mv) BN BO BP
 have vd := nI.binds (ps := ["steps", "marks"]) fun _ _ _ _ _ _ us hl => match us, hl with | [_, _], _ => rfl
 have nJ := aV (st := mw) BQ BR BS
 have vf := nJ.binds (ps := ["steps", "marks"]) fun _ _ _ _ _ _ us hl => match us, hl with | [_, _], _ => rfl
 have iP := aV (st := mx) BU BV BW
 have nK := iP.binds (ps := ["one", "other"]) fun _ _ _ _ _ _ us hl => match us, hl with | [_, _], _ => rfl
 have kE := aV (st := my) BX BY BZ
 have rm := kE.binds (ps := ["one", "by"]) fun _ _ _ _ _ _ us hl => match us, hl with | [_, _], _ => rfl
 have nM := aV (st := mz) B0 B3 B5
 have vo := nM.binds (ps := ["steps", "marks"]) fun _ _ _ _ _ _ us hl => match us, hl with | [_, _], _ => rfl
 have nN := aV (st := mB) B6 B7 B8
 have vq := nN.binds (ps := ["tops", "marks"]) fun _ _ _ _ _ _ us hl => match us, hl with | [_, _], _ => rfl
 have nO := aV (st := mC) B9 Ca Cb
 have vv := nO.binds (ps := ["board", "kind", "turn"]) fun _ _ _ _ _ _ us hl => match us, hl with | [_, _, _], _ => rfl
 have kF := aV (st := mD) Cc Cd Ce
 have rn := kF.binds (ps := ["board", "claim"]) fun _ _ _ _ _ _ us hl => match us, hl with | [_, _], _ => rfl
 have kG := aV (st := mE) Cf Cg Ci
 have rq := kG.binds (ps := ["claim", "kind", "turn"]) fun _ _ _ _ _ _ us hl => match us, hl with | [_, _, _], _ => rfl
 have nP := aV (st := mF) Cj Ck Cm
 have vz := nP.binds (ps := ["board", "claim"]) fun _ _ _ _ _ _ us hl => match us, hl with | [_, _], _ => rfl
 have nQ := aV (st := mG) Cn Co Cp
 have vB := nQ.binds (ps := ["board", "claim"]) fun _ _ _ _ _ _ us hl => match us, hl with | [_, _], _ => rfl
 have nR := aV (st := mH) Cq Cr Cs
 have vD := nR.binds (ps := ["board", "eye"]) fun _ _ _ _ _ _ us hl => match us, hl with | [_, _], _ => rfl
 have nT := aV (st := mI) Ct Cu Cv
 have vF := nT.binds (ps := ["board", "some"]) fun _ _ _ _ _ _ us hl => match us, hl with | [_, _], _ => rfl
 have nU := aV (st := mJ) Cw Cy Cz
 have vH := nU.binds (ps := ["board"]) fun _ _ _ _ _ _ us hl => match us, hl with | [_], _ => rfl
 have nV := aV (st := mK) CA CB CC
 have vJ := nV.binds (ps := ["steps", "groups"]) fun _ _ _ _ _ _ us hl => match us, hl with | [_, _], _ => rfl
 have vK := aV (st := qZ) CD CF CG
 have AB := vK.binds (ps := ["pairs", "eye"]) fun _ _ _ _ _ _ us hl => match us, hl with | [_, _], _ => rfl
 have nW := aV (st := mL) CH CI CJ
 have vM := nW.binds (ps := ["pair"]) fun _ _ _ _ _ _ us hl => match us, hl with | [_], _ => rfl
 have nX := aV (st := mM) CK CL CM
 have vO := nX.binds (ps := ["pairs", "most"]) fun _ _ _ _ _ _ us hl => match us, hl with | [_, _], _ => rfl
 have kI := aV (st := mO) CN CO CP
 have rA := kI.binds (ps := ["pairs", "eye", "most"]) fun _ _ _ _ _ _ us hl => match us, hl with | [_, _, _], _ => rfl
 have nY := aV (st := mP) CQ CS CT
 have vR := nY.binds (ps := ["pairs", "most"]) fun _ _ _ _ _ _ us hl => match us, hl with | [_, _], _ => rfl
 have kJ := aV (st := mQ) CU CV CW
 have rB := kJ.binds (ps := ["board", "claim"]) fun _ _ _ _ _ _ us hl => match us, hl with | [_, _], _ => rfl
 have rC := aV (st := mR) CY CZ C0
 have vU := rC.binds (ps := ["self", "eyes", "turns", "up", "down", "most"]) fun _ _ _ _ _ _ us hl => match us, hl with | [_, _, _, _, _, _], _ => rfl
 have rD := aV (st := mS) C1 C2 yq
 have nZ := rD.binds (ps := ["self", "turn"]) fun _ _ _ _ _ _ us hl => match us, hl with | [_, _], _ => rfl
 have rE := aV (st := mT) C3 C4 yr
 have n4 := rE.binds (ps := ["self"]) fun _ _ _ _ _ _ us hl => match us, hl with | [_], _ => rfl
 have bG := aV (st := mU) C5 C6 C7
 have bO := bG.binds (ps := ["_law_script", "_law_k", "_law_many"]) fun _ _ _ _ _ _ us hl => match us, hl with | [_, _, _], _ => rfl
 have gL := aV (st := mV) C8 C9 Dc
 have kK := gL.binds (ps := ["_law_script", "_law_k", "_law_many"]) fun _ _ _ _ _ _ us hl => match us, hl with | [_, _, _], _ => rfl
 have n5 := aV (st := mW) Dd De Df
 have v5 := n5.binds (ps := ["_law_script"]) fun _ _ _ _ _ _ us hl => match us, hl with | [_], _ => rfl
 have n6 := aV (st := mX) Dg Dh Di
 have v8 := n6.binds (ps := ["_law_script", "_law_shape_here"]) fun _ _ _ _ _ _ us hl => match us, hl with | [_, _], _ => rfl
 have n9 := aV (st := mY) Dj Dk Dl
 have wa := n9.binds (ps := ["_law_script", "_law_k", "_law_far", "_law_number", "_law_false"]) fun _ _ _ _ _ _ us hl => match us, hl with | [_, _, _, _, _], _ => rfl
 have og := aV (st := mZ) Dm Dp Dq
 have wc := og.binds (ps := ["_law_span", "_law_number"]) fun _ _ _ _ _ _ us hl => match us, hl with | [_, _], _ => rfl
 have jk := aV (st := m4) Dr Ds Dt
 have oh := jk.binds (ps := ["_law_found"]) fun _ _ _ _ _ _ us hl => match us, hl with | [_], _ => rfl
 have kL := aV (st := m5) Du Dv Dw
 have rG := kL.binds (ps := ["_law_lo", "_law_hi", "_law_claim", "_law_kind", "_law_turn"]) fun _ _ _ _ _ _ us hl => match us, hl with | [_, _, _, _, _], _ => rfl
 have oi := aV (st := m6) Dx Dy Dz
 have wo := oi.binds (ps := ["_law_shape_here", "_law_claim"]) fun _ _ _ _ _ _ us hl => match us, hl with | [_, _], _ => rfl
 have oj := aV (st := m7) DA DB DC
 have wt := oj.binds (ps := ["_law_shape_here", "_law_claim"]) fun _ _ _ _ _ _ us hl => match us, hl with | [_, _], _ => rfl
 have oo := aV (st := m8) DD DE DF
 have wx := oo.binds (ps := ["_law_told", "_law_course_here"]) fun _ _ _ _ _ _ us hl => match us, hl with | [_, _], _ => rfl
 have oq := aV (st := m9) DG DH DI
 have wz := oq.binds (ps := ["_law_course_here", "_law_claim"]) fun _ _ _ _ _ _ us hl => match us, hl with | [_, _], _ => rfl
 have ot := aV (st := nc) DJ DK DL
 have wB := ot.binds (ps := ["_law_found", "_law_shape_here", "_law_told", "_law_claim"]) fun _ _ _ _ _ _ us hl => match us, hl with | [_, _, _, _], _ => rfl
 have ou := aV (st := ng) DM DN DO
 have wD := ou.binds (ps := ["_law_steps_here", "_law_one", "_law_other"]) fun _ _ _ _ _ _ us hl => match us, hl with | [_, _, _], _ => rfl
 have ox := aV (st := nh) DQ DR DS
 have wG := ox.binds (ps := ["_law_steps_here", "_law_one", "_law_other"]) fun _ _ _ _ _ _ us hl => match us, hl with | [_, _, _], _ => rfl
 have kM := aV (st := ni) DT DU DV
 have rH := kM.binds (ps := ["_law_place", "_law_told", "_law_goals_here", "_law_aside"]) fun _ _ _ _ _ _ us hl => match us, hl with | [_, _, _, _], _ => rfl
 have oy := aV (st := nj) DW DX DY
 have wJ := oy.binds (ps := ["_law_paper", "_law_told", "_law_known", "_law_aside"]) fun _ _ _ _ _ _ us hl => match us, hl with | [_, _, _, _], _ => rfl
 have oz := aV (st := nk) DZ D0 D1
 have wL := oz.binds (ps := ["_law_paper", "_law_told", "_law_known", "_law_aside"]) fun _ _ _ _ _ _ us hl => match us, hl with | [_, _, _, _], _ => rfl
 have oA := aV (st := nq) D2 D3 D4
 have wN := oA.binds (ps := ["_law_answer", "_law_shape_here", "_law_told", "_law_claim"]) fun _ _ _ _ _ _ us hl => match us, hl with | [_, _, _, _], _ => rfl
 have oB := aV (st := nr) D5 D6 D7
 have wQ := oB.binds (ps := ["_law_script", "_law_shape_here", "_law_course_here"]) fun _ _ _ _ _ _ us hl => match us, hl with | [_, _, _], _ => rfl
 have oE := aV (st := nu) D8 D9 Ea
 have wU := oE.binds (ps := ["_law_script", "_law_shape_here", "_law_claim"]) fun _ _ _ _ _ _ us hl => match us, hl with | [_, _, _], _ => rfl
 have oF := aV (st := nv) Eb Ec Ed
 have wW := oF.binds (ps := ["_law_board", "_law_claim"]) fun _ _ _ _ _ _ us hl => match us, hl with | [_, _], _ => rfl
 have rK := aV (st := e9) Ee Ef Eg
 have AH := rK.binds (ps := ["_law_script"]) fun _ _ _ _ _ _ us hl => match us, hl with | [_], _ => rfl
 have T : ∃ T : Tx K mg, T.gi = fa /\ T.rJ = PySem.W.fnOf "law" "law" (aP e9) (aM e9) (ax e9) .none Bn Bo Bp Bm yo Bq := ⟨{ iD := xr, uR := _, nE := nE, uS := uS, IP := PySem.W.mg_of X G iD, iE := xt, uT := _, iF := iF, nF := nF, uU := PySem.W.mg_of X G iE, iG := xu, uV := _, iH := iH, nG := nG, uW := PySem.W.mg_of X G iG, iI := xw, uX := _, kB := kB, rg := rg, Au := PySem.W.mg_of X G iI, iJ := xy, uY := _, kC := kC, rh := rh, Av := PySem.W.mg_of X G iJ, iK := xA, uZ := _, kD := kD, rk := rk, Aw := PySem.W.mg_of X G iK, iL := xB, u0 := _, nH := nH, va := va, IQ := PySem.W.mg_of X G iL, iM := xC, vc := _, nI := nI, vd := vd, IS := PySem.W.mg_of X G iM, iN := xD, ve := _, nJ := nJ, vf := vf, IT := PySem.W.mg_of X G iN, iO := xE, vg := _, iP := iP, nK := nK, vh := PySem.W.mg_of X G iO, iQ := xF, vk := _, kE := kE, rm := rm, Ax := PySem.W.mg_of X G iQ, iR := xG, vm := _, nM := nM, vo := vo, IU := PySem.W.mg_of X G iR, iS := xH, vp := _, nN := nN, vq := vq, IV := PySem.W.mg_of X G iS, iT := xI, vt := _, nO := nO, vv := vv, IW := PySem.W.mg_of X G iT, iU := xJ, vw := _, kF := kF, rn := rn, Ay := PySem.W.mg_of X G iU, iV := xK, vx := _, kG := kG, rq := rq, Az := PySem.W.mg_of X G iV, iW := xM, vy := _, nP := nP, vz := vz, IX := PySem.W.mg_of X G iW, iX := xN, vA := _, nQ := nQ, vB := vB, IY := PySem.W.mg_of X G iX, iY := xO, vC := _, nR := nR, vD := vD, IZ := PySem.W.mg_of X G iY, iZ := xP, vE := _, nT := nT, vF := vF, I0 := PySem.W.mg_of X G iZ, i0 := xQ, vG := _, nU := nU, vH := vH, Ja := PySem.W.mg_of X G i0, i3 := xR, vI := _, nV := nV, vJ := vJ, Jb := PySem.W.mg_of X G i3, kH := xS, AA := _, vK := vK, AB := AB, RK := PySem.W.mg_of X G kH, i4 := xT, vL := _, nW := nW, vM := vM, Jc := PySem.W.mg_of X G i4, i5 := xU, vN := _, nX := nX, vO := vO, Jd := PySem.W.mg_of X G i5, i6 := xV, vP := _, kI := kI, rA := rA, AD := PySem.W.mg_of X G i6, i7 := xW, vQ := _, nY := nY, vR := vR, Je := PySem.W.mg_of X G i7, i8 := xX, vS := _, kJ := kJ, rB := rB, AE := PySem.W.mg_of X G i8, i9 := rY, vT := _, rC := rC, vU := vU, ja := rZ, vV := _, rD := rD, nZ := nZ, jb := r6, vW := _, rE := rE, n4 := n4, jc := xY, vX := _, bG := bG, bO := bO, bT := PySem.W.mg_of X G jc, jd := xZ, vY := _, gL := gL, kK := kK, rF := PySem.W.mg_of X G jd, je := x2, vZ := _, n5 := n5, v5 := v5, Jf := PySem.W.mg_of X G je, jf := x3, v7 := _, n6 := n6, v8 := v8, Jg := PySem.W.mg_of X G jf, jg := x4, v9 := _, n9 := n9, wa := wa, Jh := PySem.W.mg_of X G jg, jh := x5, wb := _, og := og, wc := wc, Ji := PySem.W.mg_of X G jh, ji := x6, wg := _, jk := jk, oh := oh, wj := PySem.W.mg_of X G ji, jm := x8, wk := _, kL := kL, rG := rG, AF := PySem.W.mg_of X G jm, jn := x9, wm := _, oi := oi, wo := wo, Jj := PySem.W.mg_of X G jn, jo := ya, wq := _, oj := oj, wt := wt, Jk := PySem.W.mg_of X G jo, jq := yb, wu := _, oo := oo, wx := wx, Jl := PySem.W.mg_of X G jq, jr := yc, wy := _, oq := oq, wz := wz, Jm := PySem.W.mg_of X G jr, jt := yd, wA := _, ot := ot, wB := wB, Jn := PySem.W.mg_of X G jt, ju := ye, wC := _, ou := ou, wD := wD, Jo := PySem.W.mg_of X G ju, jv := yf, wF := _, ox := ox, wG := wG, Jp := PySem.W.mg_of X G jv, jw := yg, wH := _, kM := kM, rH := rH, AG := PySem.W.mg_of X G jw, jx := yh, wI := _, oy := oy, wJ := wJ, Jq := PySem.W.mg_of X G jx, jy := yi, wK := _, oz := oz, wL := wL, Jr := PySem.W.mg_of X G jy, jz := yj, wM := _, oA := oA, wN := wN, Js := PySem.W.mg_of X G jz, jA := yk, wO := _, oB := oB, wQ := wQ, Jt := PySem.W.mg_of X G jA, jB := ym, wR := _, oE := oE, wU := wU, Ju := PySem.W.mg_of X G jB, jC := yn, wV := _, oF := oF, wW := wW, Jv := PySem.W.mg_of X G jC, gi := fa, rJ := _, rK := rK, AH := AH, RL := PySem.W.mg_of X G gi, Jw := PySem.W.mg_none_of X G Eh, Jx := PySem.W.mg_none_of X G Ei, rL := PySem.W.mg_none_of X G Ej, Jy := PySem.W.mg_none_of X G Ek, ck := PySem.W.mg_none_of X G El, cz := PySem.W.mg_none_of X G Em, wX := PySem.W.mg_none_of X G Eo, AI := PySem.W.mg_none_of X G Ep, kN := PySem.W.mg_none_of X G Er, dS := PySem.W.mg_none_of X G Es, Jz := PySem.W.mg_none_of X G Et, JA := PySem.W.mg_none_of X G Eu, AJ := PySem.W.mg_none_of X G Ew, wY := PySem.W.mg_none_of X G Ex, JB := PySem.W.mg_none_of X G Ey, gj := gj, JC := PySem.W.mg_of X G Ez, jD := jD, JD := PySem.W.mg_of X G EA, jE := jE, JE := PySem.W.mg_of X G EB, jF := jF, JF := PySem.W.mg_of X G EC, jG := jG, JG := PySem.W.mg_of X G ED, jH := jH, JH := PySem.W.mg_of X G EE, cZ := cZ, rM := PySem.W.mg_of X G EF, dH := dH, JI := PySem.W.mg_of X G EG, aU := aU, AK := PySem.W.mg_of X G EH, jI := jI, JJ := PySem.W.mg_of X G EI, jJ := jJ, JK := PySem.W.mg_of X G EJ, jK := jK, JL := PySem.W.mg_of X G EK, jL := jL, JM := PySem.W.mg_of X G EL, jM := jM, JN := PySem.W.mg_of X G EM, jN := jN, JO := PySem.W.mg_of X G EN, bf := bf, JP := PySem.W.mg_of X G EO, b9 := ⟨ER, ES, ET, EU⟩, kO := kO, gM := gM, kP := kP, kQ := kQ, gN := gN, kR := kR, oG := ⟨oG, i9, EV, EW⟩, wZ := ⟨ja, EX, yq⟩, w9 := ⟨jb, EY, yr⟩, xa := ⟨EZ, E1, E2, E3, E4, E5⟩, RM := ⟨E6, E7, E8, E9, Fb, Fc⟩, c8 := ⟨Fd, Fe, Ff, Fg, Fh, Fi⟩, JQ := Om Fj Fl Fn Fm, JR := Fo, JS := Fp, JT := Fq, JU := Fs, JV := Ft, JW := Fu, JX := Fv, JY := Fw, JZ := Fx, J0 := Fy, J1 := Fz, J5 := FA, J6 := FC, J9 := FD, Ka := FE, Kb := ⟨_, PySem.W.mg_of X G FF⟩, Kc := ⟨_, PySem.W.mg_of X G FG⟩ }, rfl, rfl⟩
 obtain ⟨T, e1, e2⟩ := T
 refine ⟨PySem.W.fnOf "law" "law" (aP e9) (aM e9) (ax e9) .none Bn Bo Bp Bm yo Bq, fun s v => .of_eq rfl, fun base _ _ => ?_⟩
 rw [<- e1, <- e2]
 exact UU T
theorem walk {l : PySem.W.OpenLaw} {q : Program} {loose : List Str} {XP : (Str -> Option Value) -> Heap -> Prop} {YP : World -> Heap -> Prop} {d : DefRec} {K : Params -> PySem.W.Frag} (hn : l.most = some 63) (hdf : d.params.defaults = [])
 (hY : ∀ (w : World) (h : Heap), YP w h -> (K w.params).In h)
 (F : ∀ (w : World) (mg : Str -> Option Value) (fa : Addr) (h : Heap), (K w.params).In h -> h.Ns mainGlobals mg -> mg d.name = some (.ref fa) ->
   ∃ fd : FuncData, (∀ (s : Shared) (u : Value), BindsTo s fd ⟨[u], []⟩ [("_law_script", u)]) /\ ∀ base : Heap, (K w.params).In base -> base.Ns mainGlobals mg -> aJ l.prog w (K w.params) mg base (aK l.prog w) 8 fa fd ["_law_script"] (xq (K w.params))) :
 PySem.W.WalkO q loose XP YP l.row.toRowW d [] (fun f vs => PySem.call f vs) :=
 Gz.Pr (k := 8) (x := "_law_script") (CX := fun w => aK l.prog w) (sp := fun w => xq (K w.params)) hn hdf ⟨rfl, by decide, by decide⟩ hY F (fun _ _ a ns hl hS => ⟨a, ns, rfl, hS, hl, fun _ => rfl⟩) fun _ _ _ _ _ z => NT z
end Al
namespace PySem.W.Fast
theorem tw15792534385897538404:True:=⟨⟩
theorem tw13163634599063441149:True:=⟨⟩
theorem tw11222182181459528494:True:=⟨⟩
theorem tw948538604843919835:True:=⟨⟩
theorem tw1140506704366885708:True:=⟨⟩
theorem tw6271256712532663472:True:=⟨⟩
theorem tw4469858011645449915:True:=⟨⟩
theorem tw399177742499331805:True:=⟨⟩
theorem tw2838719503994869365:True:=⟨⟩
theorem tw4628144897033432452:True:=⟨⟩
theorem tw8470272785263842843:True:=⟨⟩
theorem tw10543952864007948536:True:=⟨⟩
theorem tw16258945512443766035:True:=⟨⟩
theorem tw5992782245209872550:True:=⟨⟩
theorem tw11298405912097934950:True:=⟨⟩
theorem tw7329970629529170883:True:=⟨⟩
theorem tw6535640687079494402:True:=⟨⟩
theorem tw18276395584071833878:True:=⟨⟩
theorem tw10033878357015288524:True:=⟨⟩
theorem tw492893083803207796:True:=⟨⟩
theorem tw12495855854082859101:True:=⟨⟩
theorem tw6362065509352393749:True:=⟨⟩
theorem tw6008756211287911222:True:=⟨⟩
theorem tw16896048297591651492:True:=⟨⟩
theorem tw4237345372419194149:True:=⟨⟩
theorem tw4967757293453175052:True:=⟨⟩
theorem tw12525732937632163771:True:=⟨⟩
theorem tw9034725751444726224:True:=⟨⟩
theorem tw1139106090901159930:True:=⟨⟩
theorem tw4255897101529354655:True:=⟨⟩
theorem tw7755032648323979815:True:=⟨⟩
theorem tw5181598553954262292:True:=⟨⟩
theorem tw6616478916489265331:True:=⟨⟩
theorem tw14242198967768196812:True:=⟨⟩
theorem tw4334674970013260696:True:=⟨⟩
theorem tw15055377116612731314:True:=⟨⟩
theorem tw1415704479211477188:True:=⟨⟩
theorem tw11178311191023935534:True:=⟨⟩
theorem tw14063097346506027280:True:=⟨⟩
theorem tw10195213579191647148:True:=⟨⟩
theorem tw5246251707031673473:True:=⟨⟩
theorem tw7999037080132553707:True:=⟨⟩
theorem tw4105804572711957022:True:=⟨⟩
theorem tw3408084045317236416:True:=⟨⟩
theorem tw8164044407667523699:True:=⟨⟩
theorem tw416291029755676318:True:=⟨⟩
theorem tw14043260698937625676:True:=⟨⟩
theorem tw8587287023741841420:True:=⟨⟩
theorem tw13304622021290955803:True:=⟨⟩
theorem tw9386426266311652874:True:=⟨⟩
theorem tw6012812441060704749:True:=⟨⟩
theorem tw10571760114642809369:True:=⟨⟩
theorem tw16214829546218352542:True:=⟨⟩
theorem tw15223411981807148893:True:=⟨⟩
theorem tw8849433745772755370:True:=⟨⟩
theorem tw3819700042196065524:True:=⟨⟩
theorem tw13840121317766155051:True:=⟨⟩
theorem tw6846170925435789493:True:=⟨⟩
theorem tw10911443699436023225:True:=⟨⟩
theorem tw8051249135299856257:True:=⟨⟩
theorem tw17557591046311580855:True:=⟨⟩
theorem tw3387645063985087167:True:=⟨⟩
theorem tw1302053798019450815:True:=⟨⟩
theorem tw8536143356156544158:True:=⟨⟩
theorem tw13761855458935642695:True:=⟨⟩
theorem tw15396462084952860593:True:=⟨⟩
theorem tw12460948298785664566:True:=⟨⟩
theorem tw6043264777848331244:True:=⟨⟩
theorem tw17053176565550622011:True:=⟨⟩
theorem tw14400791026616270918:True:=⟨⟩
theorem tw3152084824779264600:True:=⟨⟩
theorem tw8106912401470385890:True:=⟨⟩
theorem tw2337617085450496930:True:=⟨⟩
theorem tw13337242548187751836:True:=⟨⟩
theorem tw14565522506550655515:True:=⟨⟩
theorem tw11571212871989539440:True:=⟨⟩
theorem tw12980899061619367428:True:=⟨⟩
theorem tw3555666840323563199:True:=⟨⟩
theorem tw11463081956084329429:True:=⟨⟩
theorem tw4684491495856455189:True:=⟨⟩
theorem tw7192554633105982479:True:=⟨⟩
theorem tw10769921939864314733:True:=⟨⟩
theorem tw6279982833405053124:True:=⟨⟩
theorem tw17800606387767875395:True:=⟨⟩
theorem tw8281102305190264035:True:=⟨⟩
theorem tw11445268318459615227:True:=⟨⟩
theorem tw4554694163207185860:True:=⟨⟩
theorem tw11368746940501734733:True:=⟨⟩
theorem tw15121196429149789570:True:=⟨⟩
theorem tw5614020652693406736:True:=⟨⟩
theorem tw15278404679733018435:True:=⟨⟩
theorem tw14769575314140143423:True:=⟨⟩
theorem tw13620132597244610346:True:=⟨⟩
theorem tw8688162476887166691:True:=⟨⟩
theorem tw10243567665366972510:True:=⟨⟩
theorem tw10077610823185528863:True:=⟨⟩
theorem tw15294921868470351692:True:=⟨⟩
theorem tw12586325151738902004:True:=⟨⟩
theorem tw13742409333367872527:True:=⟨⟩
theorem tw15594990244488381674:True:=⟨⟩
theorem tw3584867518077354562:True:=⟨⟩
theorem tw15105993955344708207:True:=⟨⟩
theorem tw13517131352709611546:True:=⟨⟩
theorem tw1032210072938680506:True:=⟨⟩
theorem tw8660709893979397811:True:=⟨⟩
theorem tw14435758481198553925:True:=⟨⟩
theorem tw14618405588110291109:True:=⟨⟩
theorem tw10959923175469134159:True:=⟨⟩
theorem tw8444056146960476793:True:=⟨⟩
theorem tw15912878257660498637:True:=⟨⟩
theorem tw17460378781347419682:True:=⟨⟩
theorem tw8428956826499643058:True:=⟨⟩
theorem tw11327526846039927882:True:=⟨⟩
theorem tw210710269472067423:True:=⟨⟩
theorem tw6440387725544831795:True:=⟨⟩
theorem tw14986378945117569959:True:=⟨⟩
theorem tw11332139503770812361:True:=⟨⟩
theorem tw1625229789270930277:True:=⟨⟩
theorem tw11644658128829296190:True:=⟨⟩
theorem tw12994130764087479155:True:=⟨⟩
theorem tw12183022468315126358:True:=⟨⟩
theorem tw4557779926902376738:True:=⟨⟩
theorem tw17859480776013234198:True:=⟨⟩
theorem tw8874868773155019441:True:=⟨⟩
theorem tw11007789587550189338:True:=⟨⟩
theorem tw16284755775594640935:True:=⟨⟩
theorem tw15561030312887112421:True:=⟨⟩
theorem tw14831083966174389575:True:=⟨⟩
theorem tw6625319575373687432:True:=⟨⟩
theorem tw7667476792766963427:True:=⟨⟩
theorem tw6519579820549972987:True:=⟨⟩
theorem tw11494223057657629883:True:=⟨⟩
theorem tw1105885229250166536:True:=⟨⟩
theorem tw11432505410832623889:True:=⟨⟩
theorem tw7647488165499451259:True:=⟨⟩
theorem tw2643783697803203434:True:=⟨⟩
theorem tw7564790811523151677:True:=⟨⟩
theorem tw5798000460799685328:True:=⟨⟩
theorem tw7097067293020643135:True:=⟨⟩
theorem tw11924373534282415999:True:=⟨⟩
theorem tw468869255383343698:True:=⟨⟩
theorem tw2194310009701714960:True:=⟨⟩
theorem tw5374292133368465321:True:=⟨⟩
theorem tw12402660307118040821:True:=⟨⟩
theorem tw10100023036451921440:True:=⟨⟩
theorem tw16204596037710096158:True:=⟨⟩
theorem tw13742550526023528858:True:=⟨⟩
theorem tw10056030189896615589:True:=⟨⟩
theorem tw11140388012603074346:True:=⟨⟩
theorem tw1059317657376960003:True:=⟨⟩
theorem tw12113327419861255950:True:=⟨⟩
theorem tw15994425242446700845:True:=⟨⟩
theorem tw14620201791584144001:True:=⟨⟩
theorem tw10186305072152712168:True:=⟨⟩
theorem tw8979030942947888982:True:=⟨⟩
theorem tw16062574208500859724:True:=⟨⟩
theorem tw6523179892545370332:True:=⟨⟩
theorem tw14635558207288638414:True:=⟨⟩
theorem tw2063901571319768609:True:=⟨⟩
theorem tw1649844057421591706:True:=⟨⟩
theorem tw18215202578081710397:True:=⟨⟩
theorem tw14306593852294065940:True:=⟨⟩
theorem tw5581085865997488454:True:=⟨⟩
theorem tw2089826830699038934:True:=⟨⟩
theorem tw11259993016290728391:True:=⟨⟩
theorem tw5020161527056508856:True:=⟨⟩
theorem tw4018047329325553004:True:=⟨⟩
theorem tw6758716518143933176:True:=⟨⟩
theorem tw13667268092196318736:True:=⟨⟩
theorem tw6740676111004375457:True:=⟨⟩
theorem tw9075841458540975649:True:=⟨⟩
theorem tw8437537158886547673:True:=⟨⟩
theorem tw6229452814388022744:True:=⟨⟩
theorem tw10143512618486504509:True:=⟨⟩
theorem tw9084532569566528790:True:=⟨⟩
theorem tw11673053595187872564:True:=⟨⟩
theorem tw10299816410032395660:True:=⟨⟩
theorem tw672085215092877062:True:=⟨⟩
theorem tw4934229824089116459:True:=⟨⟩
theorem tw1831457973968614277:True:=⟨⟩
theorem tw8353193930857452677:True:=⟨⟩
theorem tw3459666789765328085:True:=⟨⟩
theorem tw1323745981594689128:True:=⟨⟩
theorem tw18366279221418828523:True:=⟨⟩
theorem tw10453910563357130689:True:=⟨⟩
theorem tw4606748870789020109:True:=⟨⟩
theorem tw445974038814736000:True:=⟨⟩
theorem tw11883593065362037821:True:=⟨⟩
theorem tw8803472773079549414:True:=⟨⟩
theorem tw2757812632231911913:True:=⟨⟩
theorem tw9557974318346923865:True:=⟨⟩
theorem tw15595530568485048709:True:=⟨⟩
theorem tw4285294963173552711:True:=⟨⟩
theorem tw12858715026658505698:True:=⟨⟩
theorem tw4280218354403613232:True:=⟨⟩
theorem tw6553936515075904534:True:=⟨⟩
theorem tw7203116869396350402:True:=⟨⟩
theorem tw8332684039347112826:True:=⟨⟩
theorem tw7667205053871388596:True:=⟨⟩
theorem tw8231613448905308513:True:=⟨⟩
theorem tw6818096666224027496:True:=⟨⟩
theorem tw1276289682352989316:True:=⟨⟩
theorem tw13241337123038274933:True:=⟨⟩
theorem tw16638335644735288297:True:=⟨⟩
theorem tw1849282698271158735:True:=⟨⟩
theorem tw18262434010736935271:True:=⟨⟩
theorem tw16519171064931879126:True:=⟨⟩
theorem tw13664034276169021522:True:=⟨⟩
theorem tw17736113505314857058:True:=⟨⟩
theorem tw3559774937821030499:True:=⟨⟩
theorem tw14830490860197286518:True:=⟨⟩
theorem tw9359383601139254945:True:=⟨⟩
theorem tw6906994857393712334:True:=⟨⟩
theorem tw3402129518867694587:True:=⟨⟩
theorem tw11814484841943544743:True:=⟨⟩
theorem tw17223303839894860251:True:=⟨⟩
theorem tw28029173941829993:True:=⟨⟩
theorem tw6867891869512831006:True:=⟨⟩
theorem tw14469793069131524647:True:=⟨⟩
theorem tw9033290093694610304:True:=⟨⟩
theorem tw13180484722694783897:True:=⟨⟩
theorem tw2674495408780703946:True:=⟨⟩
theorem tw5259672658826856367:True:=⟨⟩
theorem tw13907241086730002642:True:=⟨⟩
theorem tw8065932908144647991:True:=⟨⟩
theorem tw18198246623468821106:True:=⟨⟩
theorem tw7357750451047774221:True:=⟨⟩
theorem tw61956053704395676:True:=⟨⟩
theorem tw17981590290383422937:True:=⟨⟩
theorem tw14180872953823777942:True:=⟨⟩
theorem tw66600758449524800:True:=⟨⟩
theorem tw14663000702877617852:True:=⟨⟩
theorem tw6601352887124249068:True:=⟨⟩
theorem tw14325245421881002753:True:=⟨⟩
theorem tw649118005872107027:True:=⟨⟩
theorem tw13615114904760165179:True:=⟨⟩
theorem tw8783708967130018981:True:=⟨⟩
theorem tw671111936937160307:True:=⟨⟩
theorem tw12309824718044841268:True:=⟨⟩
theorem tw8894634872379439750:True:=⟨⟩
theorem tw5382636767305651818:True:=⟨⟩
theorem tw203909106033229375:True:=⟨⟩
theorem tw2967653363316278774:True:=⟨⟩
theorem tw5566139151650720637:True:=⟨⟩
theorem tw11497818236363020109:True:=⟨⟩
theorem tw12143301497113610248:True:=⟨⟩
theorem tw316428479843699429:True:=⟨⟩
theorem tw3197204729265555339:True:=⟨⟩
theorem tw12672297575261901884:True:=⟨⟩
theorem tw5033930277879572301:True:=⟨⟩
theorem tw12343566102780190691:True:=⟨⟩
theorem tw9732291340275768906:True:=⟨⟩
theorem tw1091737002469685431:True:=⟨⟩
theorem tw460244352234650758:True:=⟨⟩
theorem tw323167119416225344:True:=⟨⟩
theorem tw13615780108538092941:True:=⟨⟩
theorem tw7356664601747832319:True:=⟨⟩
theorem tw6818545554670107806:True:=⟨⟩
theorem tw14735706032219674163:True:=⟨⟩
theorem tw13742782061161002298:True:=⟨⟩
theorem tw15251958684224289026:True:=⟨⟩
theorem tw3646532226953881022:True:=⟨⟩
theorem tw17544164578582789494:True:=⟨⟩
theorem tw2323012915257046339:True:=⟨⟩
theorem tw2859682684104648557:True:=⟨⟩
theorem tw7980493838331103942:True:=⟨⟩
theorem tw16182883709995592816:True:=⟨⟩
theorem tw17758076164623280226:True:=⟨⟩
theorem tw4559517237201792104:True:=⟨⟩
theorem tw12390788935720790327:True:=⟨⟩
theorem tw16791104073289810189:True:=⟨⟩
theorem tw4431683965992473882:True:=⟨⟩
theorem tw13700793847425659431:True:=⟨⟩
theorem tw404455605708206611:True:=⟨⟩
theorem tw9363685767650875072:True:=⟨⟩
theorem tw8133490580654552333:True:=⟨⟩
theorem tw6574795723882954064:True:=⟨⟩
theorem tw11335392914084857093:True:=⟨⟩
theorem tw13347369563253816799:True:=⟨⟩
theorem tw4868072324109980685:True:=⟨⟩
theorem tw5651846342566396900:True:=⟨⟩
theorem tw18036181338341027902:True:=⟨⟩
theorem tw9299153825498261855:True:=⟨⟩
theorem tw6694864487334950376:True:=⟨⟩
theorem tw4283577028817344359:True:=⟨⟩
theorem tw5084418399033410285:True:=⟨⟩
theorem tw13468546036283890964:True:=⟨⟩
theorem tw6501869502540024711:True:=⟨⟩
theorem tw105032564847485362:True:=⟨⟩
theorem tw10959290656474766704:True:=⟨⟩
theorem tw10530015067899951492:True:=⟨⟩
theorem tw1121629896767031075:True:=⟨⟩
theorem tw5840544515158129433:True:=⟨⟩
theorem tw17269112574861315667:True:=⟨⟩
theorem tw14116367378553987661:True:=⟨⟩
theorem tw757735076356466674:True:=⟨⟩
theorem tw2124388742325419050:True:=⟨⟩
theorem tw13302307609677300417:True:=⟨⟩
theorem tw11728558897926180360:True:=⟨⟩
theorem tw4423836050102502454:True:=⟨⟩
theorem tw7330258965709162722:True:=⟨⟩
theorem tw6456251487982156594:True:=⟨⟩
theorem tw12662302068564597446:True:=⟨⟩
theorem tw2685454860575045703:True:=⟨⟩
theorem tw12113850833721512765:True:=⟨⟩
theorem tw11848142051866680255:True:=⟨⟩
theorem tw11051225967019018278:True:=⟨⟩
theorem tw9056724544993668262:True:=⟨⟩
theorem tw16688488936229947425:True:=⟨⟩
theorem tw6951682885413397110:True:=⟨⟩
theorem tw14840876584744745301:True:=⟨⟩
theorem tw8062178476309408761:True:=⟨⟩
theorem tw10350853658843977466:True:=⟨⟩
theorem tw11645805268440320039:True:=⟨⟩
theorem tw5841982557648066147:True:=⟨⟩
theorem tw12513781928589619063:True:=⟨⟩
theorem tw8717616320707374777:True:=⟨⟩
theorem tw5335119771762877259:True:=⟨⟩
theorem tw9910727571488657028:True:=⟨⟩
theorem tw2629703827035444942:True:=⟨⟩
theorem tw17387795528069321116:True:=⟨⟩
theorem tw17906330622405019942:True:=⟨⟩
theorem tw8303490074317228484:True:=⟨⟩
theorem tw8332415075791917668:True:=⟨⟩
theorem tw1819174492810150926:True:=⟨⟩
theorem tw9796446728485828116:True:=⟨⟩
theorem tw9608406627212510322:True:=⟨⟩
theorem tw3089640145303692248:True:=⟨⟩
theorem tw11523102963185529275:True:=⟨⟩
theorem tw7449714682727123906:True:=⟨⟩
theorem tw17034055566684789835:True:=⟨⟩
theorem tw8901890609527621277:True:=⟨⟩
theorem tw10191311884576319825:True:=⟨⟩
theorem tw5939980980599635101:True:=⟨⟩
theorem tw15767100379572468051:True:=⟨⟩
theorem tw8405273896469504178:True:=⟨⟩
theorem tw11208402043715950919:True:=⟨⟩
theorem tw11146678333760227197:True:=⟨⟩
theorem tw14614743930992371683:True:=⟨⟩
theorem tw17709235218803764384:True:=⟨⟩
theorem tw599144430532420196:True:=⟨⟩
theorem tw4846838744846243656:True:=⟨⟩
theorem tw15382822951700368686:True:=⟨⟩
theorem tw4163353519709533330:True:=⟨⟩
theorem tw3902553312221872064:True:=⟨⟩
theorem tw11027857221008789533:True:=⟨⟩
theorem tw11070692489093363516:True:=⟨⟩
theorem tw9675831403919719957:True:=⟨⟩
theorem tw1219720834877883753:True:=⟨⟩
theorem tw14760185886721222302:True:=⟨⟩
theorem tw13426026032826437320:True:=⟨⟩
theorem tw16772320636052451771:True:=⟨⟩
theorem tw4627253576108985571:True:=⟨⟩
theorem tw16146725613211762614:True:=⟨⟩
theorem tw11345781068372456116:True:=⟨⟩
theorem tw14667783319416200505:True:=⟨⟩
theorem tw5747071365302922974:True:=⟨⟩
theorem tw18147238032979872468:True:=⟨⟩
theorem tw2719500121937919106:True:=⟨⟩
theorem tw17765996527702864440:True:=⟨⟩
theorem tw13865454534820276263:True:=⟨⟩
theorem tw3381383872236129642:True:=⟨⟩
theorem tw6373188456905363718:True:=⟨⟩
theorem tw7214329203908840604:True:=⟨⟩
theorem tw1252820225664307328:True:=⟨⟩
theorem tw6280565692191743784:True:=⟨⟩
theorem tw12728077875487493254:True:=⟨⟩
theorem tw17976168477257037093:True:=⟨⟩
theorem tw15268022771988938563:True:=⟨⟩
theorem tw13803909233059069582:True:=⟨⟩
theorem tw15459047171653952963:True:=⟨⟩
theorem tw15178764984927291800:True:=⟨⟩
theorem tw4133619574451831669:True:=⟨⟩
theorem tw13926493421056906049:True:=⟨⟩
theorem tw2503190899705582560:True:=⟨⟩
theorem tw977946303768122979:True:=⟨⟩
theorem tw2735378201852485403:True:=⟨⟩
theorem tw9373669326733873975:True:=⟨⟩
theorem tw15695068384565972283:True:=⟨⟩
theorem tw5787171391455588610:True:=⟨⟩
theorem tw1936725048811361989:True:=⟨⟩
theorem tw999464557341754811:True:=⟨⟩
theorem tw9853138488686297362:True:=⟨⟩
theorem tw17030352387402670835:True:=⟨⟩
theorem tw18075367365595204779:True:=⟨⟩
theorem tw8077644080298039537:True:=⟨⟩
theorem tw17754874209234504491:True:=⟨⟩
theorem tw218236709120127233:True:=⟨⟩
theorem tw2270403546242280288:True:=⟨⟩
theorem tw5628485484179055032:True:=⟨⟩
theorem tw10066226080841003736:True:=⟨⟩
theorem tw13040195300522845785:True:=⟨⟩
theorem tw15404095068134965370:True:=⟨⟩
theorem tw15466758504910190433:True:=⟨⟩
theorem tw3468949353831994939:True:=⟨⟩
theorem tw4531161642743951282:True:=⟨⟩
theorem tw14961487065255599209:True:=⟨⟩
theorem tw12702071604884418858:True:=⟨⟩
theorem tw8869796764096274931:True:=⟨⟩
theorem tw17375375621391865836:True:=⟨⟩
theorem tw4235255987612381911:True:=⟨⟩
theorem tw2751101159163081029:True:=⟨⟩
theorem tw17133856524998142157:True:=⟨⟩
theorem tw2149123336066925212:True:=⟨⟩
theorem tw10285414283832292864:True:=⟨⟩
theorem tw16888785697468992731:True:=⟨⟩
theorem tw8758943727399300693:True:=⟨⟩
theorem tw17530463818864017881:True:=⟨⟩
theorem tw15167702527412942470:True:=⟨⟩
theorem tw1433708634102264550:True:=⟨⟩
theorem tw10557400978621957229:True:=⟨⟩
theorem tw5268259912401683239:True:=⟨⟩
theorem tw17180604908503287351:True:=⟨⟩
theorem tw6245258743060809138:True:=⟨⟩
theorem tw8158233313584590618:True:=⟨⟩
theorem tw12162601948656422589:True:=⟨⟩
theorem tw3389347875906067702:True:=⟨⟩
theorem tw10712988586189668660:True:=⟨⟩
theorem tw734885390508387450:True:=⟨⟩
theorem tw7934979840173566568:True:=⟨⟩
theorem tw8364923270693349690:True:=⟨⟩
theorem tw12275463234930023066:True:=⟨⟩
theorem tw8632275000254965426:True:=⟨⟩
theorem tw15017813043423409041:True:=⟨⟩
theorem tw12828058559837060281:True:=⟨⟩
theorem tw3794001849107809403:True:=⟨⟩
theorem tw10959531887595387926:True:=⟨⟩
theorem tw12950628459024229080:True:=⟨⟩
theorem tw6422825387866903947:True:=⟨⟩
theorem tw13369387774118817933:True:=⟨⟩
theorem tw3122387501229665204:True:=⟨⟩
theorem tw10732954371935273552:True:=⟨⟩
theorem tw12955521208677666223:True:=⟨⟩
theorem tw8978816955332431243:True:=⟨⟩
theorem tw15843344581864575672:True:=⟨⟩
theorem tw4451240559727119864:True:=⟨⟩
theorem tw10095085886328988207:True:=⟨⟩
theorem tw13732824214078924780:True:=⟨⟩
theorem tw6307893910709920439:True:=⟨⟩
theorem tw13069175238133137457:True:=⟨⟩
theorem tw5113632685563105726:True:=⟨⟩
theorem tw1835670375956614488:True:=⟨⟩
theorem tw13220240508950901082:True:=⟨⟩
theorem tw9703981202496085778:True:=⟨⟩
theorem tw9257178535704445390:True:=⟨⟩
theorem tw5139669566479808014:True:=⟨⟩
theorem tw908150552114408323:True:=⟨⟩
theorem tw9049791789600914899:True:=⟨⟩
theorem tw724664218015297927:True:=⟨⟩
theorem tw15923987331593766102:True:=⟨⟩
theorem tw8863435113514756982:True:=⟨⟩
theorem tw17696771153544080020:True:=⟨⟩
theorem tw1788127562027481454:True:=⟨⟩
theorem tw1471128227938646176:True:=⟨⟩
theorem tw10190357470514785229:True:=⟨⟩
theorem tw4880955371856940236:True:=⟨⟩
theorem tw11233183193574514125:True:=⟨⟩
theorem tw14103313704358266185:True:=⟨⟩
theorem tw5910415685071835816:True:=⟨⟩
theorem tw1480235927628880824:True:=⟨⟩
theorem tw8114844590791596336:True:=⟨⟩
theorem tw17198893954735377716:True:=⟨⟩
theorem tw3150206447216333082:True:=⟨⟩
theorem tw8763192811802653636:True:=⟨⟩
theorem tw5164402351783206444:True:=⟨⟩
theorem tw13432797591549238306:True:=⟨⟩
theorem tw2627655535165043941:True:=⟨⟩
theorem tw8033580407111944248:True:=⟨⟩
theorem tw648996323016381259:True:=⟨⟩
theorem tw15460819436958850889:True:=⟨⟩
theorem tw18237794149990029704:True:=⟨⟩
theorem tw15836904071080893135:True:=⟨⟩
theorem tw15554569707602896256:True:=⟨⟩
theorem tw5847291342046742748:True:=⟨⟩
theorem tw2029634528107105174:True:=⟨⟩
theorem tw12672759213559810383:True:=⟨⟩
theorem tw14042699614760630548:True:=⟨⟩
theorem tw2191225228210560838:True:=⟨⟩
theorem tw1801392292453839699:True:=⟨⟩
theorem tw5167116759339414226:True:=⟨⟩
theorem tw6841676622319160661:True:=⟨⟩
theorem tw13900241543184504432:True:=⟨⟩
theorem tw18243163740604589650:True:=⟨⟩
theorem tw16809991468069356582:True:=⟨⟩
theorem tw12753481419680223888:True:=⟨⟩
theorem tw11698110736364656883:True:=⟨⟩
theorem tw11022305421963390582:True:=⟨⟩
theorem tw17461897167982090205:True:=⟨⟩
theorem tw7924561307681099293:True:=⟨⟩
theorem tw9864329642031003436:True:=⟨⟩
theorem tw15780615412391644388:True:=⟨⟩
theorem tw10736239853176176408:True:=⟨⟩
theorem tw1095383363148440115:True:=⟨⟩
theorem tw12324424021086300072:True:=⟨⟩
theorem tw1935962178832667673:True:=⟨⟩
theorem tw3831480592605094824:True:=⟨⟩
theorem tw13835769296144284688:True:=⟨⟩
theorem tw111237065748696286:True:=⟨⟩
theorem tw15087534311265752471:True:=⟨⟩
theorem tw3857115956950458125:True:=⟨⟩
theorem tw7915316714571070388:True:=⟨⟩
theorem tw5522670943813681482:True:=⟨⟩
theorem tw11212482604712450302:True:=⟨⟩
theorem tw6004541833312440033:True:=⟨⟩
theorem tw15157281187271493430:True:=⟨⟩
theorem tw13510054815376633051:True:=⟨⟩
theorem tw16880264872241110245:True:=⟨⟩
theorem tw7298732569777505836:True:=⟨⟩
theorem tw8314578402576341231:True:=⟨⟩
theorem tw18188491342081591651:True:=⟨⟩
theorem tw17987944978641522063:True:=⟨⟩
theorem tw14625705925229773477:True:=⟨⟩
theorem tw3636747090900083217:True:=⟨⟩
theorem tw2862100833202407832:True:=⟨⟩
theorem tw9813467851163645885:True:=⟨⟩
theorem tw9174601954680572767:True:=⟨⟩
theorem tw17470049775899076017:True:=⟨⟩
theorem tw10364923822433656125:True:=⟨⟩
theorem tw16584492430271329487:True:=⟨⟩
theorem tw10884188177284954556:True:=⟨⟩
theorem tw9055650404676488625:True:=⟨⟩
theorem tw3433371382492815613:True:=⟨⟩
theorem tw479033675735299820:True:=⟨⟩
theorem tw15972502974325483558:True:=⟨⟩
theorem tw5587524572276042516:True:=⟨⟩
theorem tw2461347761530691527:True:=⟨⟩
theorem tw17955342430590291833:True:=⟨⟩
theorem tw4418383235827904487:True:=⟨⟩
theorem tw8099266707709754658:True:=⟨⟩
theorem tw11991044428941401585:True:=⟨⟩
theorem tw18076684224486334570:True:=⟨⟩
theorem tw11966400108694366967:True:=⟨⟩
theorem tw12792000081999432843:True:=⟨⟩
theorem tw13406311747479092997:True:=⟨⟩
theorem tw1050960097084863849:True:=⟨⟩
theorem tw14516783841076118540:True:=⟨⟩
theorem tw6459770261208887512:True:=⟨⟩
theorem tw14415297055358476164:True:=⟨⟩
theorem tw16929590431838916861:True:=⟨⟩
theorem tw8095538444045210530:True:=⟨⟩
theorem tw9257016421354928878:True:=⟨⟩
theorem tw11718384509089508038:True:=⟨⟩
theorem tw5892928400839123214:True:=⟨⟩
theorem tw7263366510042420315:True:=⟨⟩
theorem tw6876051212656546474:True:=⟨⟩
theorem tw4731085072729212868:True:=⟨⟩
theorem tw13736322064906845199:True:=⟨⟩
theorem tw17227158356494096849:True:=⟨⟩
theorem tw4983530709059601518:True:=⟨⟩
theorem tw11216967062185863:True:=⟨⟩
theorem tw3459632626898244382:True:=⟨⟩
theorem tw17361668812603241003:True:=⟨⟩
theorem tw185504440017448972:True:=⟨⟩
theorem tw9213445092231451512:True:=⟨⟩
theorem tw2488554755064033302:True:=⟨⟩
theorem tw5818720493581487515:True:=⟨⟩
theorem tw6206339277548199950:True:=⟨⟩
theorem tw3300343618695912805:True:=⟨⟩
theorem tw13803670307229227890:True:=⟨⟩
theorem tw605444425165963647:True:=⟨⟩
theorem tw11955695218709535223:True:=⟨⟩
theorem tw9673722428758139772:True:=⟨⟩
theorem tw14981395664907374139:True:=⟨⟩
theorem tw1608150433236564230:True:=⟨⟩
theorem tw4122929129215477641:True:=⟨⟩
theorem tw9273839600873584754:True:=⟨⟩
theorem tw12321951090616897214:True:=⟨⟩
theorem tw9051537067649004659:True:=⟨⟩
theorem tw12740024835862909544:True:=⟨⟩
theorem tw14197259378562238961:True:=⟨⟩
theorem tw10666874330336232342:True:=⟨⟩
theorem tw1807969313821997734:True:=⟨⟩
theorem tw9712242144827660966:True:=⟨⟩
theorem tw12068397632286129336:True:=⟨⟩
theorem tw3513884727155944328:True:=⟨⟩
theorem tw15778564964009354188:True:=⟨⟩
theorem tw7665906563478248569:True:=⟨⟩
theorem tw9883797990823910787:True:=⟨⟩
theorem tw13398011795608226639:True:=⟨⟩
theorem tw14985467013181084362:True:=⟨⟩
theorem tw11585221082642670468:True:=⟨⟩
theorem tw17686806204708959078:True:=⟨⟩
theorem tw6124259847842257955:True:=⟨⟩
theorem tw15654339665582227922:True:=⟨⟩
theorem tw15162407373398449438:True:=⟨⟩
theorem tw6754822462983620327:True:=⟨⟩
theorem tw119001256669295084:True:=⟨⟩
theorem tw13272245303426552729:True:=⟨⟩
theorem tw13996831598959996507:True:=⟨⟩
theorem tw11928543339821175083:True:=⟨⟩
theorem tw12749481083544284650:True:=⟨⟩
theorem tw10760394187663614600:True:=⟨⟩
theorem tw4209873259162591653:True:=⟨⟩
theorem tw15009388437177568070:True:=⟨⟩
theorem tw5742907659269129123:True:=⟨⟩
theorem tw2806620158756359896:True:=⟨⟩
theorem tw16340152710394613348:True:=⟨⟩
theorem tw17789012915927837492:True:=⟨⟩
theorem tw10364378767286466585:True:=⟨⟩
theorem tw14354862512674209797:True:=⟨⟩
theorem tw17101689867579306445:True:=⟨⟩
end PySem.W.Fast
open PySem PySem.W PyProof.Rows
set_option maxRecDepth 100000 in
set_option maxHeartbeats 0 in
theorem PySem.Challenge.cw_gaze_k44_papers_without_words_holds : PySem.Challenge.rw_gaze_k44_papers_without_words.Holds := by
 w_on; o_law; k_head; (case hw => w_witness2)
 k_fill
 refine Al.walk (l := PySem.Challenge.rw_gaze_k44_papers_without_words) rfl rfl (fun w h Y => PySem.W.kIn_of Y) ?F
 case F =>
  intro w mg fa h KX G hmg
  refine' Al.U8 KX G hmg ?iD ?Br ?Bs ?Bu ?iE ?Bv ?Bw ?Bx ?iG ?By ?Bz ?BA ?iI ?BB ?BC ?BD ?iJ ?BE ?BF ?BG ?iK ?BH ?BI ?BJ ?iL ?BK ?BL ?BM ?iM ?BN ?BO ?BP ?iN ?BQ ?BR ?BS ?iO ?BU ?BV ?BW ?iQ ?BX ?BY ?BZ ?iR ?B0 ?B3 ?B5 ?iS ?B6 ?B7 ?B8 ?iT ?B9 ?Ca ?Cb ?iU ?Cc ?Cd ?Ce ?iV ?Cf ?Cg ?Ci ?iW ?Cj ?Ck ?Cm ?iX ?Cn ?Co ?Cp ?iY ?Cq ?Cr ?Cs ?iZ ?Ct ?Cu ?Cv ?i0 ?Cw ?Cy ?Cz ?i3 ?CA ?CB ?CC ?kH ?CD ?CF ?CG ?i4 ?CH ?CI ?CJ ?i5 ?CK ?CL ?CM ?i6 ?CN ?CO ?CP ?i7 ?CQ ?CS ?CT ?i8 ?CU ?CV ?CW ?i9 ?CY ?CZ ?C0 ?ja ?C1 ?C2 ?yq ?jb ?C3 ?C4 ?yr ?jc ?C5 ?C6 ?C7 ?jd ?C8 ?C9 ?Dc ?je ?Dd ?De ?Df ?jf ?Dg ?Dh ?Di ?jg ?Dj ?Dk ?Dl ?jh ?Dm ?Dp ?Dq ?ji ?Dr ?Ds ?Dt ?jm ?Du ?Dv ?Dw ?jn ?Dx ?Dy ?Dz ?jo ?DA ?DB ?DC ?jq ?DD ?DE ?DF ?jr ?DG ?DH ?DI ?jt ?DJ ?DK ?DL ?ju ?DM ?DN ?DO ?jv ?DQ ?DR ?DS ?jw ?DT ?DU ?DV ?jx ?DW ?DX ?DY ?jy ?DZ ?D0 ?D1 ?jz ?D2 ?D3 ?D4 ?jA ?D5 ?D6 ?D7 ?jB ?D8 ?D9 ?Ea ?jC ?Eb ?Ec ?Ed ?gi ?Ee ?Ef ?Eg ?Eh ?Ei ?Ej ?Ek ?El ?Em ?Eo ?Ep ?Er ?Es ?Et ?Eu ?Ew ?Ex ?Ey ?Ez ?EA ?EB ?EC ?ED ?EE ?EF ?EG ?EH ?EI ?EJ ?EK ?EL ?EM ?EN ?EO ?ER ?ES ?ET ?EU ?kO ?gM ?kP ?kQ ?gN ?kR ?EV ?oG ?EW ?EX ?EY ?EZ ?E1 ?E2 ?E3 ?E4 ?E5 ?E6 ?E7 ?E8 ?E9 ?Fb ?Fc ?Fd ?Fe ?Ff ?Fg ?Fh ?Fi ?Fj ?Fl ?Fm ?Fn ?Fo ?Fp ?Fq ?Fs ?Ft ?Fu ?Fv ?Fw ?Fx ?Fy ?Fz ?FA ?FC ?FD ?FE ?FF ?FG
  (case Ez => k_is)
  (case EA => k_is)
  (case EB => k_is)
  (case EC => k_is)
  (case ED => k_is)
  (case EE => k_is)
  (case EF => k_is)
  (case EG => k_is)
  (case EH => k_is)
  (case EI => k_is)
  (case EJ => k_is)
  (case EK => k_is)
  (case EL => k_is)
  (case EM => k_is)
  (case EN => k_is)
  (case EO => k_is)
  (case iD => k_is)
  (case Br => k_is)
  (case Bs => k_is)
  (case Bu => k_is)
  (case iE => k_is)
  (case Bv => k_is)
  (case Bw => k_is)
  (case Bx => k_is)
  (case iG => k_is)
  (case By => k_is)
  (case Bz => k_is)
  (case BA => k_is)
  (case iI => k_is)
  (case BB => k_is)
  (case BC => k_is)
  (case BD => k_is)
  (case iJ => k_is)
  (case BE => k_is)
  (case BF => k_is)
  (case BG => k_is)
  (case iK => k_is)
  (case BH => k_is)
  (case BI => k_is)
  (case BJ => k_is)
  (case iL => k_is)
  (case BK => k_is)
  (case BL => k_is)
  (case BM => k_is)
  (case iM => k_is)
  (case BN => k_is)
  (case BO => k_is)
  (case BP => k_is)
  (case iN => k_is)
  (case BQ => k_is)
  (case BR => k_is)
  (case BS => k_is)
  (case iO => k_is)
  (case BU => k_is)
  (case BV => k_is)
  (case BW => k_is)
  (case iQ => k_is)
  (case BX => k_is)
  (case BY => k_is)
  (case BZ => k_is)
  (case iR => k_is)
  (case B0 => k_is)
  (case B3 => k_is)
  (case B5 => k_is)
  (case iS => k_is)
  (case B6 => k_is)
  (case B7 => k_is)
  (case B8 => k_is)
  (case iT => k_is)
  (case B9 => k_is)
  (case Ca => k_is)
  (case Cb => k_is)
  (case iU => k_is)
  (case Cc => k_is)
  (case Cd => k_is)
  (case Ce => k_is)
  (case iV => k_is)
  (case Cf => k_is)
  (case Cg => k_is)
  (case Ci => k_is)
  (case iW => k_is)
  (case Cj => k_is)
  (case Ck => k_is)
  (case Cm => k_is)
  (case iX => k_is)
  (case Cn => k_is)
  (case Co => k_is)
  (case Cp => k_is)
  (case iY => k_is)
  (case Cq => k_is)
  (case Cr => k_is)
  (case Cs => k_is)
  (case iZ => k_is)
  (case Ct => k_is)
  (case Cu => k_is)
  (case Cv => k_is)
  (case i0 => k_is)
  (case Cw => k_is)
  (case Cy => k_is)
  (case Cz => k_is)
  (case i3 => k_is)
  (case CA => k_is)
  (case CB => k_is)
  (case CC => k_is)
  (case kH => k_is)
  (case CD => k_is)
  (case CF => k_is)
  (case CG => k_is)
  (case i4 => k_is)
  (case CH => k_is)
  (case CI => k_is)
  (case CJ => k_is)
  (case i5 => k_is)
  (case CK => k_is)
  (case CL => k_is)
  (case CM => k_is)
  (case i6 => k_is)
  (case CN => k_is)
  (case CO => k_is)
  (case CP => k_is)
  (case i7 => k_is)
  (case CQ => k_is)
  (case CS => k_is)
  (case CT => k_is)
  (case i8 => k_is)
  (case CU => k_is)
  (case CV => k_is)
  (case CW => k_is)
  (case i9 => k_is)
  (case CY => k_is)
  (case CZ => k_is)
  (case C0 => k_is)
  (case ja => k_is)
  (case C1 => k_is)
  (case C2 => k_is)
  (case yq => k_is)
  (case jb => k_is)
  (case C3 => k_is)
  (case C4 => k_is)
  (case yr => k_is)
  (case jc => k_is)
  (case C5 => k_is)
  (case C6 => k_is)
  (case C7 => k_is)
  (case jd => k_is)
  (case C8 => k_is)
  (case C9 => k_is)
  (case Dc => k_is)
  (case je => k_is)
  (case Dd => k_is)
  (case De => k_is)
  (case Df => k_is)
  (case jf => k_is)
  (case Dg => k_is)
  (case Dh => k_is)
  (case Di => k_is)
  (case jg => k_is)
  (case Dj => k_is)
  (case Dk => k_is)
  (case Dl => k_is)
  (case jh => k_is)
  (case Dm => k_is)
  (case Dp => k_is)
  (case Dq => k_is)
  (case ji => k_is)
  (case Dr => k_is)
  (case Ds => k_is)
  (case Dt => k_is)
  (case jm => k_is)
  (case Du => k_is)
  (case Dv => k_is)
  (case Dw => k_is)
  (case jn => k_is)
  (case Dx => k_is)
  (case Dy => k_is)
  (case Dz => k_is)
  (case jo => k_is)
  (case DA => k_is)
  (case DB => k_is)
  (case DC => k_is)
  (case jq => k_is)
  (case DD => k_is)
  (case DE => k_is)
  (case DF => k_is)
  (case jr => k_is)
  (case DG => k_is)
  (case DH => k_is)
  (case DI => k_is)
  (case jt => k_is)
  (case DJ => k_is)
  (case DK => k_is)
  (case DL => k_is)
  (case ju => k_is)
  (case DM => k_is)
  (case DN => k_is)
  (case DO => k_is)
  (case jv => k_is)
  (case DQ => k_is)
  (case DR => k_is)
  (case DS => k_is)
  (case jw => k_is)
  (case DT => k_is)
  (case DU => k_is)
  (case DV => k_is)
  (case jx => k_is)
  (case DW => k_is)
  (case DX => k_is)
  (case DY => k_is)
  (case jy => k_is)
  (case DZ => k_is)
  (case D0 => k_is)
  (case D1 => k_is)
  (case jz => k_is)
  (case D2 => k_is)
  (case D3 => k_is)
  (case D4 => k_is)
  (case jA => k_is)
  (case D5 => k_is)
  (case D6 => k_is)
  (case D7 => k_is)
  (case jB => k_is)
  (case D8 => k_is)
  (case D9 => k_is)
  (case Ea => k_is)
  (case jC => k_is)
  (case Eb => k_is)
  (case Ec => k_is)
  (case Ed => k_is)
  (case gi => k_is)
  (case Ee => k_is)
  (case Ef => k_is)
  (case Eg => k_is)
  (case Eh => k_is)
  (case Ei => k_is)
  (case Ej => k_is)
  (case Ek => k_is)
  (case El => k_is)
  (case Em => k_is)
  (case Eo => k_is)
  (case Ep => k_is)
  (case Er => k_is)
  (case Es => k_is)
  (case Et => k_is)
  (case Eu => k_is)
  (case Ew => k_is)
  (case Ex => k_is)
  (case Ey => k_is)
  (case ER => k_is)
  (case ES => k_is)
  (case ET => k_is)
  (case EU => k_is)
  (case kO => k_is)
  (case gM => k_is)
  (case kP => k_is)
  (case kQ => k_is)
  (case gN => k_is)
  (case kR => k_is)
  (case EV => k_is)
  (case oG => k_is)
  (case EW => k_is)
  (case EX => k_is)
  (case EY => k_is)
  (case EZ => k_exc)
  (case E1 => k_is)
  (case E2 => k_is)
  (case E3 => k_is)
  (case E4 => k_is)
  (case E5 => k_is)
  (case E6 => k_exc)
  (case E7 => k_is)
  (case E8 => k_is)
  (case E9 => k_is)
  (case Fb => k_is)
  (case Fc => k_is)
  (case Fd => k_exc)
  (case Fe => k_is)
  (case Ff => k_is)
  (case Fg => k_is)
  (case Fh => k_is)
  (case Fi => k_is)
  (case Fj => k_is)
  (case Fl => k_is)
  (case Fm => k_is)
  (case Fn => k_is)
  (case Fo => kit_is)
  (case Fp => kit_is)
  (case Fq => kit_is)
  (case Fs => kit_is)
  (case Ft => kit_is)
  (case Fu => kit_is)
  (case Fv => kit_is)
  (case Fw => kit_is)
  (case Fx => kit_is)
  (case Fy => kit_is)
  (case Fz => kit_is)
  (case FA => kit_is)
  (case FC => kit_is)
  (case FD => kit_is)
  (case FE => kit_is)
  (case FF => k_is)
  (case FG => k_is)
#print axioms PySem.Challenge.cw_gaze_k44_papers_without_words_holds
