import PyProof.Rows.All
import Wide.All
import OpenK.AllK
import Wide.FinOn
import Lean
import PyProof.EqAt
import PyProof.EqKinds
import PyProof.TupleCall
import KE.KSortAsk
import KE.KSortTup
import KE.KRevIter
import KE.LcSums
import KE.KDictSum
import KE.KDictList
import PyProof.AttrMissHeap
import PySem.Challenge.RW_gaze_k41_quarrels
set_option Elab.async false
set_option linter.all false
set_option maxRecDepth 100000
set_option maxHeartbeats 4000000
set_option exponentiation.threshold 2000
namespace L2
open PySem PySem.Spec PyProof.Rows
noncomputable abbrev Key := Sum Int Str
noncomputable def kW : Key -> Value -> Bool
 | .inl k, v => Value.isInt k v
 | .inr x, v => Value.isStrOf x v
noncomputable def Jd (w : World) : Key -> Int
 | .inl k => hashInt k
 | .inr x => hashStr w x
theorem f9 : ∀ {k : Key} {v : Value}, kW k v = true -> (∃ i t, k = Sum.inl i /\ v = Value.int i t) ∨ (∃ x t, k = Sum.inr x /\ v = Value.str x t)
 | .inl i, v, h => by
  obtain ⟨t, e⟩ := Value.isInt_shape (k := i) (v := v) h
  exact .inl ⟨i, t, rfl, e⟩
 | .inr x, v, h => by
  obtain ⟨t, e⟩ := Value.isStrOf_shape (x := x) (v := v) h
  exact .inr ⟨x, t, rfl, e⟩
theorem Je (i : Int) (t : Tok) : kW (.inl i) (.int i t) = true := by simp [kW, Value.isInt]
theorem Jf (x : Str) (t : Tok) : kW (.inr x) (.str x t) = true := by simp [kW, Value.isStrOf]
theorem Jg (a b : Int) : decide ((Sum.inl a : Key) = Sum.inl b) = (a == b) := by
 by_cases e : a = b
 ·subst e; simp
 ·have h : ¬ (Sum.inl a : Key) = Sum.inl b := fun q => e (Sum.inl.inj q)
  rw [decide_eq_false h]
  exact (beq_eq_false_iff_ne.mpr e).symm
theorem Jh (a b : Str) : decide ((Sum.inr a : Key) = Sum.inr b) = decide (a = b) := by
 by_cases e : a = b
 ·subst e; simp
 ·have h : ¬ (Sum.inr a : Key) = Sum.inr b := fun q => e (Sum.inr.inj q)
  rw [decide_eq_false h, decide_eq_false e]
theorem Ji (a : Int) (b : Str) : decide ((Sum.inl a : Key) = Sum.inr b) = false := decide_eq_false (fun q => nomatch q)
theorem Jj (a : Str) (b : Int) : decide ((Sum.inr a : Key) = Sum.inl b) = false := decide_eq_false (fun q => nomatch q)
noncomputable def cS (prog : Program) (w : World) : PySem.KeyKind prog w Key where
 is := kW
 hash := Jd w
 inj := fun v a b ha hb => by
  rcases f9 ha with ⟨i, t, rfl, rfl⟩ | ⟨x, t, rfl, rfl⟩
  ·rcases f9 hb with ⟨j, u, rfl, e⟩ | ⟨y, u, rfl, e⟩
   ·injection e with e1 _; rw [e1]
   ·exact nomatch e
  ·rcases f9 hb with ⟨j, u, rfl, e⟩ | ⟨y, u, rfl, e⟩
   ·exact nomatch e
   ·injection e with e1 _; rw [e1]
 byValue := fun k v h => by
  rcases f9 h with ⟨i, t, rfl, rfl⟩ | ⟨x, t, rfl, rfl⟩ <;> rfl
 pyHash := fun hv h => by
  rcases f9 hv with ⟨i, t, rfl, rfl⟩ | ⟨x, t, rfl, rfl⟩
  ·exact wpAny_pyHash_int h
  ·exact wpAny_pyHash_str h
 eqBool := fun hu hv h => by
  rcases f9 hu with ⟨i, t, rfl, rfl⟩ | ⟨x, t, rfl, rfl⟩
  ·rcases f9 hv with ⟨j, u, rfl, rfl⟩ | ⟨y, u, rfl, rfl⟩
   ·rw [Jg] at h; exact wpAny_eqBool_int h
   ·rw [Ji] at h; exact SeqAt.EqAt.int_str i t y u _ _ _ _ h
  ·rcases f9 hv with ⟨j, u, rfl, rfl⟩ | ⟨y, u, rfl, rfl⟩
   ·rw [Jj] at h; exact SeqAt.EqAt.str_int x t j u _ _ _ _ h
   ·rw [Jh] at h; exact wpAny_eqBool_str h
 «strs» := fun k x t v h => by
  rcases f9 h with ⟨i, u, rfl, e⟩ | ⟨y, u, rfl, e⟩
  ·exact nomatch e
  ·injection e with e1 _
   subst e1
   cases v <;> rfl
theorem Jk (prog : Program) (w : World) (i : Int) (t : Tok) : (cS prog w).is (.inl i) (.int i t) = true := Je i t
theorem Jl (prog : Program) (w : World) (x : Str) (t : Tok) : (cS prog w).is (.inr x) (.str x t) = true := Jf x t
end L2
namespace L2
open PySem PySem.Spec PyProof.Rows
inductive V where
 | non | bl (b : Bool) | int (i : Int) | str (x : Str) | byt (b : Array UInt8) | flt (b : UInt64) | ref (a : Addr) | ty (n : String)
 deriving DecidableEq
noncomputable def RelV : V -> Value -> Prop
 | .non, u => u = Value.none
 | .bl b, u => u = Value.bool b
 | .int i, u => ∃ t, u = Value.int i t
 | .str x, u => ∃ t, u = Value.str x t
 | .byt b, u => ∃ t, u = Value.bytes b t
 | .flt b, u => ∃ t, u = Value.float b t
 | .ref a, u => u = Value.ref a
 | .ty n, u => u = Value.type n
noncomputable abbrev Vals : List V -> List Value -> Prop := Paired RelV
theorem Vals.length {xs : List V} {us : List Value} (r : Vals xs us) : xs.length = us.length := Paired.length r
theorem Vals.get : ∀ {xs : List V} {us : List Value} {i : Nat} {x : V}, Vals xs us -> xs[i]? = some x -> ∃ u, us[i]? = some u /\ RelV x u
 | _, _, _, _, .nil, e => by simp at e
 | _, _, 0, _, .cons r _, e => by simp at e; subst e; exact ⟨_, rfl, r⟩
 | _, _, i + 1, x, .cons _ t, e => by
  obtain ⟨u, h1, h2⟩ := Vals.get (i := i) (x := x) t (by simpa using e)
  exact ⟨u, by simpa using h1, h2⟩
theorem Vals.set {x : V} {u : Value} (r : RelV x u) : ∀ {xs : List V} {us : List Value} (i : Nat), Vals xs us -> Vals (xs.set i x) (us.set i u)
 | _, _, _, .nil => .nil
 | _, _, 0, .cons _ t => .cons r t
 | _, _, i + 1, .cons q t => .cons q (Vals.set r i t)
theorem Vals.append : ∀ {xs ys : List V} {us ws : List Value}, Vals xs us -> Vals ys ws -> Vals (xs ++ ys) (us ++ ws)
 | _, _, _, _, .nil, s => s
 | _, _, _, _, .cons r t, s => .cons r (Vals.append t s)
theorem Vals.take : ∀ {xs : List V} {us : List Value} (n : Nat), Vals xs us -> Vals (xs.take n) (us.take n)
 | _, _, 0, _ => .nil
 | _, _, _ + 1, .nil => .nil
 | _, _, n + 1, .cons r t => .cons r (Vals.take n t)
theorem Vals.drop : ∀ {xs : List V} {us : List Value} (n : Nat), Vals xs us -> Vals (xs.drop n) (us.drop n)
 | _, _, 0, r => r
 | _, _, _ + 1, .nil => .nil
 | _, _, n + 1, .cons _ t => Vals.drop n t
noncomputable def cz : Option V -> Option Value -> Prop
 | some v, some u => RelV v u
 | none, none => True
 | _, _ => False
noncomputable def KV {κ : Type} : List (κ × V) -> List (κ × Value) -> Prop := Paired fun (p : κ × V) (q : κ × Value) => p.1 = q.1 /\ RelV p.2 q.2
noncomputable def kV : Key -> V
 | .inl i => .int i
 | .inr x => .str x
inductive HO where
 | lst (xs : List V)
 | tup (xs : List V)
 | dK (kvs : List (Key × V)) | dT (kvs : List (List Key × V))
 | set (S : Int -> Bool) (n : Nat)
 | ins (C dx : Addr) (fs : List (Str × V))
 | own (x : Addr)
 | xd (fs : List (Str × V))
 | met (f x : Addr)
 | g9 (lo hi : Int)
 | aJ (o : Obj) (u : HO)
 | tbl (ps : Array Value)
 | ext (φ : Heap -> Prop)
noncomputable abbrev Hp := Addr -> Option HO
noncomputable def upd (H : Hp) (a : Addr) (o : HO) : Hp := fun b => if b = a then some o else H b
theorem aw {H : Hp} {a : Addr} {o : HO} : upd H a o a = some o := by unfold upd; rw [if_pos rfl]
theorem ay {H : Hp} {a b : Addr} {o : HO} (h : b ≠ a) : upd H a o b = H b := by unfold upd; rw [if_neg h]
theorem rP {H : Hp} {a : Addr} {o u : HO} : upd (upd H a o) a u = upd H a u := by
 funext b; unfold upd; split <;> rfl
theorem xA {H : Hp} {a b : Addr} {o u : HO} (h : H a = some o) (h' : H b = some u) (d : o ≠ u) : a ≠ b := by
 intro e; subst e; rw [h] at h'; exact d (Option.some.inj h')
theorem hJ {H : Hp} {a b : Addr} {o : HO} (h : H a = some o) (h' : H b = none) : a ≠ b := by
 intro e; subst e; rw [h] at h'; cases h'
section
variable (P : Program) (w : World)
noncomputable def bb (H : Hp) (h : Heap) (a : Addr) : HO -> Prop
 | .lst xs => xs.length <= sizeLine /\ ∃ (af : List Value) (n : Nat), Vals xs af /\ h.get? a = some { cls := .type "list", data := .seq af.toArray n }
 | .tup xs => xs.length <= sizeLine /\ ∃ af : List Value, Vals xs af /\ IsTup h a af.toArray
 | .dK kvs => kvs.length <= sizeLine /\ (a == sysModules) = false /\ ∃ vs, KV kvs vs /\ h.DictOf (cS P w) a vs
 | .dT kvs => kvs.length <= sizeLine /\ (a == sysModules) = false /\ ∃ xs : List (List Key × Addr × Value),
  Paired (fun (p : List Key × V) (q : List Key × Addr × Value) => p.1 = q.1 /\ H q.2.1 = some (.tup (p.1.map kV)) /\ RelV p.2 q.2.2) kvs xs /\
  ∃ o es ep, h.get? a = some o /\ o.ExactDict /\ o.data = .dict es ep /\ es.toList = xs.map (entryOfKey (tupleKind (cS P w))) /\ (xs.map (·.1)).Nodup
 | .set S n => h.SetOf (intKind P w) a S n
 | .ins C dx fs => H dx = some (.own a) /\ fs.length <= 1000 /\ dx ≠ a /\ h.get? a = some (PySem.W.instObj C dx) /\
  ∃ mA, h.Ns1 dx mA /\ (∀ f, cz (fs.lookup f) (mA f)) /\ PySem.Within mA (fs.map (·.1))
 | .own _ => ∃ o, h.get? a = some o
 | .xd fs => ∃ mA, h.Ns1 a mA /\ ∀ f, cz (fs.lookup f) (mA f)
 | .g9 lo hi => ∃ t u v, h.get? a = some { cls := .type "range", data := .fields #[.int lo t, .int hi u, .int 1 v] }
 | .aJ o u => h.get? a = some o /\ bb H h a u
 | .tbl ps => h.get? a = some { cls := .none, data := .fields ps }
 | .met f x => h.get? a = some (PySem.W.methodObj (.ref f) (.ref x))
 | .ext φ => φ h /\ (∃ o, h.get? a = some o) /\ ∀ h1 h2 : Heap, φ h1 -> (∀ o, h1.get? a = some o -> h2.get? a = some o) -> φ h2
noncomputable def bh (H : Hp) (h : Heap) : Prop := ∀ a o, H a = some o -> bb P w H h a o
end
section
variable {P : Program} {w : World} {H H' : Hp} {h h' : Heap} {a : Addr} {o : HO}
theorem bb.lt (x : bb P w H h a o) : a < h.objs.size := by
 cases o with
 | lst xs => obtain ⟨_, _, _, _, e⟩ := x; exact Heap.lt_size e
 | tup xs => obtain ⟨_, _, _, p⟩ := x; exact p.lt
 | dK kvs => obtain ⟨_, _, _, _, o, _, _, e, _⟩ := x; exact Heap.lt_size e
 | dT kvs => obtain ⟨_, _, _, _, o, _, _, e, _⟩ := x; exact Heap.lt_size e
 | set S n => obtain ⟨o, _, _, _, e, _⟩ := x; exact Heap.lt_size e
 | ins C dx fs => obtain ⟨_, _, _, e, _⟩ := x; exact Heap.lt_size e
 | own y => obtain ⟨_, e⟩ := x; exact Heap.lt_size e
 | xd fs => obtain ⟨_, ⟨_, _, _, e, _⟩, _⟩ := x; exact Heap.lt_size e
 | g9 lo hi => obtain ⟨_, _, _, e⟩ := x; exact Heap.lt_size e
 | aJ ob u => obtain ⟨e, _⟩ := x; exact Heap.lt_size e
 | tbl ps => exact Heap.lt_size (show h.get? a = some _ from x)
 | met f y => exact Heap.lt_size (show h.get? a = some _ from x)
 | ext φ => obtain ⟨_, ⟨_, e⟩, _⟩ := x; exact Heap.lt_size e
theorem Paired.xB {α β : Type} {F G : α -> β -> Prop} : ∀ {l₁ : List α} {l₂ : List β}, Paired F l₁ l₂ -> (∀ a b, F a b -> G a b) -> Paired G l₁ l₂
 | _, _, .nil, _ => .nil
 | _, _, .cons r t, f => .cons (f _ _ r) (Paired.xB t f)
theorem bb.d7 (x : bb P w H h a o) (k : ∀ b u, (b = a ∨ H b = some (.own a)) -> h.get? b = some u -> h'.get? b = some u)
 (ho : ∀ b, H b = some (.own a) -> H' b = some (.own a)) (ht : ∀ b xs, H b = some (.tup xs) -> H' b = some (.tup xs)) : bb P w H' h' a o := by
 induction o with
 | lst xs => obtain ⟨z, af, n, r, e⟩ := x; exact ⟨z, af, n, r, k _ _ (.inl rfl) e⟩
 | tup xs => obtain ⟨z, af, r, ob, e, c⟩ := x; exact ⟨z, af, r, ob, k _ _ (.inl rfl) e, c⟩
 | dK kvs => obtain ⟨z, y, vs, r, ob, es, ep, e, c⟩ := x; exact ⟨z, y, vs, r, ob, es, ep, k _ _ (.inl rfl) e, c⟩
 | dT kvs =>
  obtain ⟨z, y, xs, r, ob, es, ep, e, c⟩ := x
  exact ⟨z, y, xs, Paired.xB r fun p q z => ⟨z.1, ht _ _ z.2.1, z.2.2⟩, ob, es, ep, k _ _ (.inl rfl) e, c⟩
 | set S n => obtain ⟨ob, es, ep, t, e, c⟩ := x; exact ⟨ob, es, ep, t, k _ _ (.inl rfl) e, c⟩
 | ins C dx fs =>
  obtain ⟨d, z, ne, e, mA, ⟨od, es, ep, e2, c⟩, r⟩ := x
  exact ⟨ho _ d, z, ne, k _ _ (.inl rfl) e, mA, ⟨od, es, ep, k _ _ (.inr d) e2, c⟩, r⟩
 | own y => obtain ⟨ob, e⟩ := x; exact ⟨ob, k _ _ (.inl rfl) e⟩
 | xd fs => obtain ⟨mA, ⟨od, es, ep, e, c⟩, r⟩ := x; exact ⟨mA, ⟨od, es, ep, k _ _ (.inl rfl) e, c⟩, r⟩
 | g9 lo hi => obtain ⟨t, u, v, e⟩ := x; exact ⟨t, u, v, k _ _ (.inl rfl) e⟩
 | aJ ob u ih => obtain ⟨e, q⟩ := x; exact ⟨k _ _ (.inl rfl) e, ih q⟩
 | tbl ps =>
  have e : h.get? a = some { cls := .none, data := .fields ps } := x
  show h'.get? a = some { cls := .none, data := .fields ps }
  exact k a _ (.inl rfl) e
 | met f y =>
  have e : h.get? a = some (PySem.W.methodObj (.ref f) (.ref y)) := x
  show h'.get? a = some (PySem.W.methodObj (.ref f) (.ref y))
  exact k a _ (.inl rfl) e
 | ext φ => obtain ⟨p, ⟨o, e⟩, st⟩ := x; exact ⟨st _ _ p fun o q => k _ _ (.inl rfl) q, ⟨o, k _ _ (.inl rfl) e⟩, st⟩
theorem bh.lt (x : bh P w H h) (e : H a = some o) : a < h.objs.size := (x a o e).lt
theorem bh.fresh (x : bh P w H h) (e : h.objs.size <= a) : H a = none := by
 cases q : H a with
 | none => rfl
 | some u => exact absurd (Nat.lt_of_lt_of_le (x.lt q) e) (Nat.lt_irrefl _)
theorem bh.kept (x : bh P w H h) (k : ∀ b u, h.get? b = some u -> h'.get? b = some u) : bh P w H h' := fun a o e =>
 (x a o e).d7 (fun b u _ q => k b u q) (fun _ q => q) fun _ _ q => q
theorem bh.laid (x : bh P w H h) (k : ∀ b u, h.get? b = some u -> h'.get? b = some u) (hp : h.objs.size <= a) (new : bb P w (upd H a o) h' a o) : bh P w (upd H a o) h' := fun b u e => by
 have hn := x.fresh hp
 by_cases hb : b = a
 ·subst hb; rw [aw] at e; cases e; exact new
 ·rw [ay hb] at e
  exact (x b u e).d7 (fun c v _ q => k c v q) (fun c q => by rw [ay (hJ q hn)]; exact q) fun c xs q => by rw [ay (hJ q hn)]; exact q
end
noncomputable def Rd (H : Hp) (a : Addr) (u : HO) : Prop := H a = some u ∨ ∃ o, H a = some (.aJ o u)
theorem Rd.of {H : Hp} {a : Addr} {u : HO} (h : H a = some u) : Rd H a u := .inl h
theorem Rd.ok {P : Program} {w : World} {H : Hp} {h : Heap} {a : Addr} {u : HO} (r : Rd H a u) (x : bh P w H h) : bb P w H h a u := by
 rcases r with r | ⟨o, r⟩
 ·exact x a u r
 ·obtain ⟨_, q⟩ := x a _ r
  exact q
noncomputable def ox : Option HO -> Prop
 | some (.lst _) => True
 | some (.dK _) => True
 | some (.dT _) => True
 | some (.set _ _) => True
 | some (.ins _ _ _) => True
 | some (.ext _) => True
 | _ => False
section
variable {P : Program} {w : World} {H : Hp} {h h' : Heap} {x e : Addr} {o' : HO}
theorem bh.write (ok : bh P w H h) (mu : ox (H x)) (he : e = x ∨ H e = some (.own x)) (k : ∀ b u, b ≠ e -> h.get? b = some u -> h'.get? b = some u) (kX : ∃ u, h'.get? e = some u)
 (new : bb P w (upd H x o') h' x o') : bh P w (upd H x o') h' := fun b u q => by
 have Df : ∀ c y, H c = some (.own y) -> c ≠ x := fun c y r z => by subst z; rw [r] at mu; exact mu
 have Jm : ∀ c xs, H c = some (.tup xs) -> c ≠ x := fun c xs r z => by subst z; rw [r] at mu; exact mu
 by_cases hb : b = x
 ·subst hb; rw [aw] at q; cases q; exact new
 ·rw [ay hb] at q
  by_cases hbe : b = e
  ·have q' : H b = some (.own x) := by
    rcases he with z | z
    ·exact absurd (hbe.trans z) hb
    ·rw [hbe]; exact z
   rw [q] at q'; cases q'
   obtain ⟨v, hv⟩ := kX
   exact ⟨v, by rw [hbe]; exact hv⟩
  ·refine (ok b u q).d7 (fun c v hc r => k c v ?_ r) (fun c r => by rw [ay (Df c b r)]; exact r) fun c xs r => by rw [ay (Jm c xs r)]; exact r
   rcases hc with rfl | hc
   ·exact hbe
   ·rintro rfl
    rcases he with z | z
    ·exact Df c b hc z
    ·rw [hc] at z; cases z; exact hb rfl
end
structure Un (fs ex : List Addr) (H H' : Hp) (h h' : Heap) : Prop where
 keep : ∀ b o, h.get? b = some o -> H b = none -> b ∉ fs -> b ∉ ex -> h'.get? b = some o
 slot : ∀ b o, h.get? b = some o -> H b = none -> b ∈ fs -> b ∉ ex -> ∃ sl, h'.get? b = some { o with slots := sl }
 free : ∀ b o, h.get? b = some o -> H b = none -> b ∉ ex -> H' b = none
 there : ∀ b o, h.get? b = some o -> b ∉ ex -> ∃ o', h'.get? b = some o'
 cv : ∀ b xs, H b = some (.tup xs) -> H' b = some (.tup xs)
 cw : ∀ b o u, H b = some (.aJ o u) -> H' b = some (.aJ o u)
 cG : ∀ b ps, H b = some (.tbl ps) -> ∃ more, H' b = some (.tbl (ps ++ more))
section
variable {fs Jn ex WW : List Addr} {H H1 H2 : Hp} {h h1 h2 h' : Heap} {a x e : Addr} {o : HO}
theorem Un.any (u : Un fs ex H H1 h h1) {b : Addr} {ob : Obj} (q : h.get? b = some ob) (n : H b = none) (hx : b ∉ ex) : ∃ sl, h1.get? b = some { ob with slots := sl } := by
 by_cases hb : b ∈ fs
 ·exact u.slot b ob q n hb hx
 ·exact ⟨ob.slots, u.keep b ob q n hb hx⟩
theorem Un.trans (a : Un fs ex H H1 h h1) (b : Un fs ex H1 H2 h1 h2) : Un fs ex H H2 h h2 where
 keep := fun c ob q n hc hx => b.keep c ob (a.keep c ob q n hc hx) (a.free c ob q n hx) hc hx
 slot := fun c ob q n hc hx => by
  obtain ⟨sl, e1⟩ := a.slot c ob q n hc hx
  obtain ⟨cH, e2⟩ := b.slot c _ e1 (a.free c ob q n hx) hc hx
  exact ⟨cH, e2⟩
 free := fun c ob q n hx => by
  obtain ⟨o', e1⟩ := a.there c ob q hx
  exact b.free c o' e1 (a.free c ob q n hx) hx
 there := fun c ob q hx => by
  obtain ⟨o', e1⟩ := a.there c ob q hx
  exact b.there c o' e1 hx
 cv := fun c xs q => b.cv c xs (a.cv c xs q)
 cw := fun c ob xs q => b.cw c ob xs (a.cw c ob xs q)
 cG := fun c ps q => by
  obtain ⟨m1, e1⟩ := a.cG c ps q
  obtain ⟨m2, e2⟩ := b.cG c _ e1
  exact ⟨m1 ++ m2, by rw [e2, Array.append_assoc]⟩
theorem Un.kept (k : ∀ b u, h.get? b = some u -> h'.get? b = some u) : Un fs ex H H h h' :=
 ⟨fun b ob q _ _ _ => k b ob q, fun b ob q _ _ _ => ⟨ob.slots, k b ob q⟩, fun _ _ _ n _ => n, fun b ob q _ => ⟨ob, k b ob q⟩, fun _ _ q => q, fun _ _ _ q => q, fun _ ps q => ⟨#[], by rw [q]; simp⟩⟩
theorem Un.refl : Un fs ex H H h h := Un.kept fun _ _ q => q
theorem Un.laid (k : ∀ b u, h.get? b = some u -> h'.get? b = some u) (hp : h.objs.size <= a) (hn : H a = none) : Un fs ex H (upd H a o) h h' where
 keep := fun b u q _ _ _ => k b u q
 slot := fun b u q _ _ _ => ⟨u.slots, k b u q⟩
 free := fun b u q n _ => by rw [ay (Nat.ne_of_lt (Nat.lt_of_lt_of_le (Heap.lt_size q) hp))]; exact n
 there := fun b u q _ => ⟨u, k b u q⟩
 cv := fun b xs q => by rw [ay (hJ q hn)]; exact q
 cw := fun b u xs q => by rw [ay (hJ q hn)]; exact q
 cG := fun b ps q => ⟨#[], by rw [ay (hJ q hn), q]; simp⟩
theorem Un.write (mu : ox (H x)) (he : e = x ∨ H e = some (.own x)) (k : ∀ b u, b ≠ e -> h.get? b = some u -> h'.get? b = some u) (kX : ∃ u, h'.get? e = some u) : Un fs ex H (upd H x o) h h' := by
 have hx : ∀ b, H b = none -> b ≠ x := fun b n z => by subst z; rw [n] at mu; exact mu
 have hb : ∀ b, H b = none -> b ≠ e := fun b n z => by
  subst z
  rcases he with r | r
  ·exact hx b n r
  ·rw [n] at r; cases r
 have hm : ∀ b u, H b = some u -> ¬ ox (some u) -> b ≠ x := fun b u q nm z => by subst z; rw [q] at mu; exact nm mu
 refine ⟨fun b u q n _ _ => k b u (hb b n) q, fun b u q n _ _ => ⟨u.slots, k b u (hb b n) q⟩, fun b u q n _ => by rw [ay (hx b n)]; exact n, fun b u q _ => ?_,
  fun b xs q => by rw [ay (hm b _ q fun z => z)]; exact q, fun b u xs q => by rw [ay (hm b _ q fun z => z)]; exact q, fun b ps q => ⟨#[], by rw [ay (hm b _ q fun z => z), q]; simp⟩⟩
 by_cases hbe : b = e
 ·subst hbe; exact kX
 ·exact ⟨u, k b u hbe q⟩
end
noncomputable def cA (h : Heap) (H : Hp) : List Addr := (List.range h.objs.size).filter fun a => (H a).isSome
noncomputable def gb (h : Heap) (H : Hp) : Heap := PySem.W.hideAll h (cA h H)
theorem Jo (h : Heap) (H : Hp) : (gb h H).objs.size = h.objs.size := PySem.W.hideAll_size _ _
theorem Jp {h : Heap} {H : Hp} {b : Addr} {o : Obj} (e : h.get? b = some o) (n : H b = none) : (gb h H).get? b = some o :=
 PySem.W.hideAll_get _ e fun hm => by
  have q : (H b).isSome = true := (List.mem_filter.mp hm).2
  rw [n] at q; simp at q
theorem Jq {h : Heap} {H : Hp} {b : Addr} {o : Obj} (e : (gb h H).get? b = some o) : h.get? b = some o /\ H b = none := by
 have e' : h.get? b = some o := PySem.W.of_hideAll (cA h H) e
 refine ⟨e', ?_⟩
 cases q : H b with
 | none => rfl
 | some x =>
  have hm : b ∈ cA h H := List.mem_filter.mpr ⟨List.mem_range.mpr (Heap.lt_size e'), by simp [q]⟩
  have z : (gb h H).get? b = none := PySem.W.hideAll_none (cA h H) hm
  rw [z] at e; cases e
noncomputable def Jr (g h : Heap) (L : Addr) : List (Addr × Obj) := (List.range h.objs.size).filterMap fun a => if a = L ∨ (g.get? a).isSome = true then none else (h.get? a).map fun o => (a, o)
noncomputable def rest (g h : Heap) (L d : Addr) : List (Addr × Obj) := (Jr g h L).filter fun p => decide (p.1 ≠ d)
end L2
namespace L2
open PySem PySem.Spec PyProof.Rows
structure Mod (K : PySem.W.Frag) (mg : Str -> Option Value) (base : Heap) : Prop where
 kin : K.In base
 glob : base.Ns mainGlobals mg
 blt : ∃ mb, base.Ns builtinsNs mb /\ ∀ x : Str, x ≠ "__name__" -> mb x = bootBuiltins x
 nolimit : base.NoLimit
structure Cx where
 prog : Program
 w : World
 K : PySem.W.Frag
 mg : Str -> Option Value
 base : Heap
 A : Around
 N : List Str
 s₀ : Shared
 H₀ : Hp
 env : Env
 outer : List Env
 stack : List Env
 ex : List Addr
 fn : Str -> Bool
 calm : Bool
 pn : List (Addr × Obj)
 xe : Value -> Shared -> Prop
noncomputable def aN (l : List Env) : List Addr := l.filterMap (·.frame)
noncomputable abbrev Cx.fs (X : Cx) : List Addr := aN X.outer
noncomputable def xC (sc : Scope) (x : Str) : Prop := sc.names.lookup x = some .local ∨ sc.names.lookup x = some .cell ∨ sc.names.lookup x = some .free
noncomputable def Loc (sc : Scope) (x : Str) : Prop := sc.names.lookup x = some .local ∨ sc.names.lookup x = some .cell
noncomputable def Look (env : Env) (h : Heap) (m : Str -> Option Value) (x : Str) (u : Value) : Prop :=
 (env.kindOf x = some .local /\ m x = some u) ∨ ((env.kindOf x = some .cell ∨ env.kindOf x = some .free) /\ ∃ c, env.cells.lookup x = some c /\ h.IsCell c (some u))
structure Cx.Ok (X : Cx) : Prop where
 mod : Mod X.K X.mg X.base
 kind : X.env.scope.kind = .function
 glob : X.env.globals = mainGlobals
 blt : X.env.builtins = builtinsNs
 above : X.s₀.heap.objs.size <= X.env.locals
 inj : ∀ x y c, X.env.cells.lookup x = some c -> X.env.cells.lookup y = some c -> x = y
 has : ∀ x, (X.env.kindOf x = some .cell ∨ X.env.kindOf x = some .free) -> ∃ c, X.env.cells.lookup x = some c
 cab : ∀ x c, X.fn x = true -> X.env.cells.lookup x = some c -> X.s₀.heap.objs.size <= c
 hd : X.calm = true -> X.A.handled = none
 frames : X.A.frames = some X.stack
 stk : X.stack = X.outer ∨ (X.stack = X.env :: X.outer /\ X.env.frame = some X.env.locals)
 exf : ∀ b ∈ X.ex, b ≠ X.env.locals /\ ∀ x c, X.env.cells.lookup x = some c -> c ≠ b
 bs : ∀ b o, X.base.get? b = some o -> X.s₀.heap.get? b = some o /\ X.H₀ b = none
 bsz : X.base.objs.size <= X.s₀.heap.objs.size
 noex : ∀ b o, X.base.get? b = some o -> b ∉ X.ex
 exfs : ∀ b ∈ X.ex, b ∉ X.fs
 d8 : X.s₀.heap.FunFrames X.base X.outer
 frf : ∀ b ∈ X.fs, X.H₀ b = none
structure Inv (X : Cx) (pins : List (Addr × Obj)) (σ : List (Option V)) (H : Hp) (s : Shared) : Prop where
 ok : X.Ok
 os : s.os = X.s₀.os
 bare : AllBare s.gens
 base : Un X.fs X.ex X.H₀ H X.s₀.heap s.heap
 loc : ∃ m, s.heap.Ns X.env.locals m /\ ∀ (i : Nat) (x : Str) (v : V), X.N[i]? = some x -> σ[i]? = some (some v) -> xC X.env.scope x -> ∃ u, RelV v u /\ Look X.env s.heap m x u
 cell : ∀ x c, X.env.cells.lookup x = some c -> ∃ v, s.heap.IsCell c v
 free : H X.env.locals = none
 d9 : ∀ x c, X.env.cells.lookup x = some c -> H c = none
 pin : ∀ p ∈ X.pn ++ pins, s.heap.get? p.1 = some p.2 /\ H p.1 = none /\ p.1 ≠ X.env.locals /\ p.1 ∉ X.fs /\ ∀ v, p.2.data ≠ .cell v
 ag : bh X.prog X.w H s.heap
 len : σ.length = X.N.length
section
variable {X : Cx} {pins : List (Addr × Obj)} {σ : List (Option V)} {H H' : Hp} {s : Shared} {h' : Heap}
theorem Cx.Ok.gd (ok : X.Ok) {b : Addr} {o : Obj} (e : X.base.get? b = some o) : b ∉ X.fs := fun hb => by
 have := (ok.d8.mem hb).1
 rw [e] at this; cases this
theorem Inv.bs (I : Inv X pins σ H s) : ∀ b o, X.base.get? b = some o -> s.heap.get? b = some o /\ H b = none := fun b o e =>
 ⟨I.base.keep b o (I.ok.bs b o e).1 (I.ok.bs b o e).2 (I.ok.gd e) (I.ok.noex b o e), I.base.free b o (I.ok.bs b o e).1 (I.ok.bs b o e).2 (I.ok.noex b o e)⟩
theorem Inv.bk (I : Inv X pins σ H s) : ∀ b o, X.base.get? b = some o -> s.heap.get? b = some o := fun b o e => (I.bs b o e).1
theorem Inv.mod (I : Inv X pins σ H s) : Mod X.K X.mg X.base := I.ok.mod
theorem Inv.bM (I : Inv X pins σ H s) : X.K.In s.heap := I.ok.mod.kin.keeps I.bk
theorem Inv.fr (I : Inv X pins σ H s) : ∃ m, Fr X.base X.env.locals s.heap m :=
 let ⟨m, hn, _⟩ := I.loc
 ⟨m, hn, I.bk, Nat.le_trans I.ok.bsz I.ok.above⟩
theorem Inv.lt (I : Inv X pins σ H s) : X.env.locals < s.heap.objs.size := let ⟨_, hn, _⟩ := I.loc; hn.lt
theorem Inv.sz (I : Inv X pins σ H s) : X.s₀.heap.objs.size <= s.heap.objs.size := Nat.le_trans I.ok.above (Nat.le_of_lt I.lt)
theorem Inv.xD (I : Inv X pins σ H s) {a : Addr} (h : s.heap.objs.size <= a) : a ∉ X.fs := fun hb => by
 obtain ⟨_, o, ho, _⟩ := I.ok.d8.mem hb
 exact absurd (Nat.lt_of_lt_of_le (Heap.lt_size ho) (Nat.le_trans I.sz h)) (Nat.lt_irrefl _)
theorem Inv.jy (I : Inv X pins σ H s) : ∀ x c, X.env.cells.lookup x = some c -> c ≠ X.env.locals := fun x c e z => by
 obtain ⟨v, o, ho, hd⟩ := I.cell x c e
 obtain ⟨m, ⟨o', es, ep, ck, eW, _⟩, _⟩ := I.loc
 rw [z, ck] at ho; cases ho; rw [eW] at hd; cases hd
theorem Inv.d8 (I : Inv X pins σ H s) : s.heap.FunFrames X.base X.outer := by
 have all : ∀ (l : List Env), (∀ b ∈ aN l, b ∈ X.fs) -> X.s₀.heap.FunFrames X.base l -> s.heap.FunFrames X.base l := by
  intro l
  induction l with
  | nil => intro _ _; trivial
  | cons env r ih =>
   intro hs hl
   obtain ⟨hk, ⟨L, o, hf, hn, ho, hd⟩, hr⟩ := hl
   have hL : L ∈ X.fs := hs L (by unfold aN; rw [List.filterMap_cons, hf]; exact List.mem_cons_self)
   obtain ⟨sl, e⟩ := I.base.slot L o ho (I.ok.frf L hL) hL fun z => I.ok.exfs L z hL
   exact ⟨hk, ⟨L, _, hf, hn, e, hd⟩, ih (fun b hb => hs b (by unfold aN; rw [List.filterMap_cons, hf]; exact List.mem_cons_of_mem _ hb)) hr⟩
 exact all X.outer (fun _ hb => hb) I.ok.d8
theorem Inv.stack (I : Inv X pins σ H s) : s.heap.FunFrames X.base X.stack := by
 rcases I.ok.stk with e | ⟨e, hf⟩
 ·rw [e]; exact I.d8
 ·rw [e]
  obtain ⟨m, hn, _⟩ := I.loc
  refine .cons (by rw [I.ok.kind]; decide) hf hn ?_ I.d8
  exact Heap.get?_none_of_le (Nat.le_trans I.ok.bsz I.ok.above)
theorem Inv.fD (I : Inv X pins σ H s) : ∀ b ∈ aN X.stack, b ∈ X.env.locals :: X.fs := fun b hb => by
 rcases I.ok.stk with e | ⟨e, hf⟩
 ·rw [e] at hb; exact List.mem_cons_of_mem _ hb
 ·rw [e] at hb
  unfold aN at hb
  rw [List.filterMap_cons, hf] at hb
  exact hb
theorem Inv.oy (I : Inv X pins σ H s) : ∀ b ∈ aN X.stack, H b = none := fun b hb => by
 rcases List.mem_cons.mp (I.fD b hb) with e | hb
 ·rw [e]; exact I.free
 ·obtain ⟨_, o, ho, _⟩ := I.ok.d8.mem hb
  exact I.base.free b o ho (I.ok.frf b hb) fun z => I.ok.exfs b z hb
theorem Inv.step {g' : Array GenState} {t' : Nat} {d' : Drawn} {ch : List Addr} (I : Inv X pins σ H s)
 (fE : ∀ b ∈ ch, (b ∈ X.ex ∨ X.s₀.heap.objs.size <= b) /\ b ≠ X.env.locals /\ (∀ x c, X.env.cells.lookup x = some c -> c ≠ b) /\ ∀ p ∈ X.pn ++ pins, p.1 ≠ b)
 (keep : ∀ b o, b ≠ X.env.locals -> b ∉ X.fs -> b ∉ ch -> s.heap.get? b = some o -> H b = none -> h'.get? b = some o)
 (slot : ∀ b o, b ≠ X.env.locals -> b ∈ X.fs -> b ∉ ch -> s.heap.get? b = some o -> H b = none -> ∃ sl, h'.get? b = some { o with slots := sl }) (free : ∀ b o, b ∉ ch -> s.heap.get? b = some o -> H b = none -> H' b = none)
 (there : ∀ b o, b ∉ ch -> s.heap.get? b = some o -> ∃ o', h'.get? b = some o')
 (cv : ∀ b xs, H b = some (.tup xs) -> H' b = some (.tup xs)) (cw : ∀ b o u, H b = some (.aJ o u) -> H' b = some (.aJ o u)) (cG : ∀ b ps, H b = some (.tbl ps) -> ∃ more, H' b = some (.tbl (ps ++ more)))
 (ns : ∀ m, s.heap.Ns X.env.locals m -> h'.Ns X.env.locals m) (ag : bh X.prog X.w H' h') (hg : AllBare g') :
 Inv X pins σ H' { s with heap := h', gens := g', drawn := d', toks := t' } := by
 have kY : ∀ b o, X.s₀.heap.get? b = some o -> b ≠ X.env.locals := fun b o e => Nat.ne_of_lt (Nat.lt_of_lt_of_le (Heap.lt_size e) I.ok.above)
 have rQ : ∀ b o, X.s₀.heap.get? b = some o -> b ∉ X.ex -> b ∉ ch := fun b o e hx hb => by
  rcases (fE b hb).1 with z | z
  ·exact hx z
  ·exact absurd (Nat.lt_of_lt_of_le (Heap.lt_size e) z) (Nat.lt_irrefl _)
 have cellK : ∀ x c, X.env.cells.lookup x = some c -> ∀ v, s.heap.IsCell c v -> h'.IsCell c v := fun x c e v ⟨o, ho, hd⟩ => by
  have hU : c ∉ ch := fun z => (fE c z).2.2.1 x c e rfl
  by_cases hc : c ∈ X.fs
  ·obtain ⟨sl, q⟩ := slot c o (I.jy x c e) hc hU ho (I.d9 x c e)
   exact ⟨_, q, hd⟩
  ·exact ⟨o, keep c o (I.jy x c e) hc hU ho (I.d9 x c e), hd⟩
 refine ⟨I.ok, I.os, hg, ⟨fun b o e n hb hx => ?_, fun b o e n hb hx => ?_, fun b o e n hx => ?_, fun b o e hx => ?_, fun b xs e => cv b xs (I.base.cv b xs e), fun b o xs e => cw b o xs (I.base.cw b o xs e), fun b ps e => ?_⟩, ?_, fun x c e => ?_, ?_, fun x c e => ?_, fun p hp => ?_, ag, I.len⟩
 ·exact keep b o (kY b o e) hb (rQ b o e hx) (I.base.keep b o e n hb hx) (I.base.free b o e n hx)
 ·obtain ⟨sl, e1⟩ := I.base.slot b o e n hb hx
  obtain ⟨cH, e2⟩ := slot b _ (kY b o e) hb (rQ b o e hx) e1 (I.base.free b o e n hx)
  exact ⟨cH, e2⟩
 ·obtain ⟨o', e1⟩ := I.base.there b o e hx
  exact free b o' (rQ b o e hx) e1 (I.base.free b o e n hx)
 ·obtain ⟨o', e1⟩ := I.base.there b o e hx
  exact there b o' (rQ b o e hx) e1
 ·obtain ⟨m1, e1⟩ := I.base.cG b ps e
  obtain ⟨m2, e2⟩ := cG b _ e1
  exact ⟨m1 ++ m2, by rw [e2, Array.append_assoc]⟩
 ·obtain ⟨m, hn, hl⟩ := I.loc
  refine ⟨m, ns m hn, fun i x v e1 e2 e3 => ?_⟩
  obtain ⟨u, r, l⟩ := hl i x v e1 e2 e3
  refine ⟨u, r, ?_⟩
  rcases l with l | ⟨k, c, e, z⟩
  ·exact .inl l
  ·exact .inr ⟨k, c, e, cellK x c e _ z⟩
 ·obtain ⟨v, z⟩ := I.cell x c e
  exact ⟨v, cellK x c e v z⟩
 ·obtain ⟨m, ⟨o, _, _, ho, _⟩, _⟩ := I.loc
  exact free _ o (fun z => (fE _ z).2.1 rfl) ho I.free
 ·obtain ⟨v, o, ho, hd⟩ := I.cell x c e
  exact free c o (fun z => (fE c z).2.2.1 x c e rfl) ho (I.d9 x c e)
 ·obtain ⟨e, n, ne, nf, d⟩ := I.pin p hp
  have hU : p.1 ∉ ch := fun z => (fE p.1 z).2.2.2 p hp rfl
  exact ⟨keep p.1 p.2 ne nf hU e n, free p.1 p.2 hU e n, ne, nf, d⟩
theorem Inv.un {t' : Nat} (I : Inv X pins σ H s) (u : Un X.fs [] H H' s.heap h') (ag : bh X.prog X.w H' h') : Inv X pins σ H' { s with heap := h', toks := t' } := by
 obtain ⟨m, ⟨o, es, ep, ho, r⟩, _⟩ := id I.loc
 obtain ⟨sl, hL⟩ := u.any ho I.free (by simp)
 exact I.step (g' := s.gens) (d' := s.drawn) (ch := []) (fun _ z => nomatch z) (fun b o _ hb _ e n => u.keep b o e n hb (by simp)) (fun b o _ hb _ e n => u.slot b o e n hb (by simp)) (fun b o _ e n => u.free b o e n (by simp)) (fun b o _ e => u.there b o e (by simp)) u.cv u.cw u.cG (fun m' hm => by
  obtain ⟨o', es', hV, ck, r'⟩ := hm
  rw [ho] at ck; cases ck
  exact ⟨_, es', hV, hL, r'⟩) ag I.bare
theorem Inv.call {g' : Array GenState} {t' : Nat} {d' : Drawn} {ch : List Addr} (I : Inv X pins σ H s) (u : Un (aN X.stack) ch H H' s.heap h') (ag : bh X.prog X.w H' h') (hg : AllBare g')
 (fE : ∀ b ∈ ch, (b ∈ X.ex ∨ X.s₀.heap.objs.size <= b) /\ b ≠ X.env.locals /\ (∀ x c, X.env.cells.lookup x = some c -> c ≠ b) /\ ∀ p ∈ X.pn ++ pins, p.1 ≠ b) :
 Inv X pins σ H' { s with heap := h', gens := g', drawn := d', toks := t' } := by
 obtain ⟨m, ⟨o, es, ep, ho, r⟩, _⟩ := id I.loc
 obtain ⟨sl, hL⟩ := u.any ho I.free fun z => (fE _ z).2.1 rfl
 exact I.step (ch := ch) fE (fun b o hL hb hc e n => u.keep b o e n (fun z => (List.mem_cons.mp (I.fD b z)).elim hL hb) hc) (fun b o _ _ hc e n => u.any e n hc) (fun b o hc e n => u.free b o e n hc) (fun b o hc e => u.there b o e hc) u.cv u.cw u.cG (fun m' hm => by
  obtain ⟨o', es', hV, ck, r'⟩ := hm
  rw [ho] at ck; cases ck
  exact ⟨_, es', hV, hL, r'⟩) ag hg
theorem Inv.turned {t' : Nat} {it : Addr} (I : Inv X pins σ H s) (k : ∀ b o, b ≠ it -> s.heap.get? b = some o -> h'.get? b = some o) (hn : H it = none) (hL : it ≠ X.env.locals)
 (h1 : it ∈ X.ex ∨ X.s₀.heap.objs.size <= it) (h2 : ∀ x c, X.env.cells.lookup x = some c -> c ≠ it) (h3 : ∀ p ∈ X.pn ++ pins, p.1 ≠ it) : Inv X pins σ H { s with heap := h', toks := t' } := by
 have Dg : ∀ b u, H b = some u -> b ≠ it := fun b u e z => by rw [z, hn] at e; cases e
 refine I.step (g' := s.gens) (d' := s.drawn) (ch := [it]) (fun b hb => ?_) (fun b o _ _ hc e _ => k b o (fun z => hc (by simp [z])) e) (fun b o _ _ hc e _ => ⟨o.slots, k b o (fun z => hc (by simp [z])) e⟩) (fun _ _ _ _ n => n)
  (fun b o hc e => ⟨o, k b o (fun z => hc (by simp [z])) e⟩) (fun _ _ e => e) (fun _ _ _ e => e) (fun b ps e => ⟨#[], by rw [e]; simp⟩) (fun m hm => ?_) (fun b u e => ?_) I.bare
 ·have e : b = it := by simpa using hb
  subst e
  exact ⟨h1, hL, h2, h3⟩
 ·obtain ⟨o, es, ep, ho, r⟩ := hm
  exact ⟨o, es, ep, k _ o (Ne.symm hL) ho, r⟩
 ·refine (I.ag b u e).d7 (fun c v hc q => k c v ?_ q) (fun _ q => q) fun _ _ q => q
  rcases hc with z | z
  ·rw [z]; exact Dg b u e
  ·exact Dg c _ z
theorem Inv.tok (I : Inv X pins σ H s) (t : Nat) : Inv X pins σ H { s with toks := t } := I.un (h' := s.heap) (t' := t) Un.refl I.ag
theorem Inv.kept {t' : Nat} (I : Inv X pins σ H s) (k : ∀ b u, s.heap.get? b = some u -> h'.get? b = some u) : Inv X pins σ H { s with heap := h', toks := t' } := I.un (Un.kept k) (I.ag.kept k)
theorem Inv.laid {a : Addr} {o : HO} {t' : Nat} (I : Inv X pins σ H s) (k : ∀ b u, s.heap.get? b = some u -> h'.get? b = some u) (hp : s.heap.objs.size <= a) (new : bb X.prog X.w (upd H a o) h' a o) :
 Inv X pins σ (upd H a o) { s with heap := h', toks := t' } := I.un (Un.laid k hp (I.ag.fresh hp)) (I.ag.laid k hp new)
theorem Inv.write {x e : Addr} {o : HO} {t' : Nat} (I : Inv X pins σ H s) (mu : ox (H x)) (he : e = x ∨ H e = some (.own x)) (k : ∀ b u, b ≠ e -> s.heap.get? b = some u -> h'.get? b = some u) (kX : ∃ u, h'.get? e = some u)
 (new : bb X.prog X.w (upd H x o) h' x o) : Inv X pins σ (upd H x o) { s with heap := h', toks := t' } := I.un (Un.write mu he k kX) (I.ag.write mu he k kX new)
theorem Inv.hW {Dh : List (Addr × Obj)} (I : Inv X pins σ H s) (h : ∀ p ∈ Dh, s.heap.get? p.1 = some p.2 /\ H p.1 = none /\ p.1 ≠ X.env.locals /\ p.1 ∉ X.fs /\ ∀ v, p.2.data ≠ .cell v) : Inv X Dh σ H s :=
 ⟨I.ok, I.os, I.bare, I.base, I.loc, I.cell, I.free, I.d9, fun p hp => (List.mem_append.mp hp).elim (fun z => I.pin p (List.mem_append_left _ z)) (h p), I.ag, I.len⟩
theorem Di {N : List Str} (hN : N.Nodup) {i j : Nat} {x : Str} (a : N[i]? = some x) (b : N[j]? = some x) : i = j := by
 obtain ⟨h1, e1⟩ := List.getElem?_eq_some_iff.mp a
 obtain ⟨h2, e2⟩ := List.getElem?_eq_some_iff.mp b
 exact (List.getElem_inj hN).mp (e1.trans e2.symm)
theorem Js {M : Model} {A : Around} {E : Value -> Shared -> Prop} {i : Nat} {x : Str} {v : V} {u : Value} {Q : Unit -> Shared -> Prop} (I : Inv X pins σ H s) (hN : X.N.Nodup) (hi : X.N[i]? = some x) (hx : Loc X.env.scope x) (r : RelV v u)
 (h : ∀ s', Inv X pins (σ.set i (some v)) H s' -> (∃ a, Heap.SameBut a s.heap s'.heap /\ (a = X.env.locals ∨ X.env.cells.lookup x = some a)) -> Q () s') (hf : X.fn x = true ∨ X.env.scope.names.lookup x = some .local := by first | exact .inl rfl | exact .inr rfl | assumption) : wpAny M A (storeName X.env x u) Q E s := by
 obtain ⟨m, hn, hl⟩ := id I.loc
 have Jt : (X.env.scope.kind == .class || (X.env.scope.kind == .module && X.env.locals != X.env.globals)) = false := by rw [I.ok.kind]; rfl
 have Dj : i < σ.length := by rw [I.len]; exact (List.getElem?_eq_some_iff.mp hi).1
 have jy := I.jy
 have tracked : ∀ {a : Addr} {h' : Heap}, (∃ o, s.heap.get? a = some o /\ H a = none) -> Heap.SameBut a s.heap h' -> bh X.prog X.w H h' := fun {a h'} ha hs b ob e => by
  obtain ⟨_, _, hfree⟩ := ha
  refine (I.ag b ob e).d7 (fun c w' hc q => (hs.2 c ?_).trans q) (fun _ q => q) fun _ _ q => q
  rintro rfl
  rcases hc with rfl | hc
  ·rw [hfree] at e; cases e
  ·rw [hfree] at hc; cases hc
 rcases hx with hk | hk
 ·refine wpAny_storeName_local hk hn (fun h' oz hs => ?_) Jt
  obtain ⟨oL, _, _, Ju, _⟩ := id hn
  refine h _ ⟨I.ok, I.os, I.bare, ⟨fun b o e n hb hx => ?_, fun b o e n hb hx => ?_, I.base.free, fun b o e hx => ?_, I.base.cv, I.base.cw, I.base.cG⟩, ⟨_, oz, fun j y v' e1 e2 e3 => ?_⟩, fun y c e => ?_, I.free, I.d9, fun p hp => ?_, tracked ⟨oL, Ju, I.free⟩ hs, by simpa using I.len⟩ ⟨_, hs, .inl rfl⟩
  ·exact (hs.2 b (Nat.ne_of_lt (Nat.lt_of_lt_of_le (Heap.lt_size e) I.ok.above))).trans (I.base.keep b o e n hb hx)
  ·obtain ⟨sl, e1⟩ := I.base.slot b o e n hb hx
   exact ⟨sl, (hs.2 b (Nat.ne_of_lt (Nat.lt_of_lt_of_le (Heap.lt_size e) I.ok.above))).trans e1⟩
  ·obtain ⟨o', e1⟩ := I.base.there b o e hx
   exact ⟨o', (hs.2 b (Nat.ne_of_lt (Nat.lt_of_lt_of_le (Heap.lt_size e) I.ok.above))).trans e1⟩
  ·by_cases hj : j = i
   ·subst hj
    rw [hi] at e1; cases e1
    rw [List.getElem?_set_self Dj] at e2
    cases e2
    exact ⟨u, r, .inl ⟨hk, by simp⟩⟩
   ·rw [List.getElem?_set_ne (Ne.symm hj)] at e2
    obtain ⟨u', r', q⟩ := hl j y v' e1 e2 e3
    refine ⟨u', r', ?_⟩
    rcases q with ⟨k, e⟩ | ⟨k, c, e, z⟩
    ·refine .inl ⟨k, ?_⟩
     have : y ≠ x := fun e => hj (Di hN e1 (e ▸ hi))
     simp [this, e]
    ·exact .inr ⟨k, c, e, z.sameBut hs (jy y c e)⟩
  ·obtain ⟨w', z⟩ := I.cell y c e
   exact ⟨w', z.sameBut hs (jy y c e)⟩
  ·obtain ⟨e, n, ne, nf, d⟩ := I.pin p hp
   exact ⟨(hs.2 p.1 ne).trans e, n, ne, nf, d⟩
 ·have xE : X.fn x = true := by
   rcases hf with z | z
   ·exact z
   ·rw [z] at hk; cases hk
  obtain ⟨c, hc⟩ := I.ok.has x (.inl hk)
  obtain ⟨w', z⟩ := I.cell x c hc
  refine wpAny_storeName_cell I.ok.kind hk hc z (fun h' Dk hs => ?_)
  obtain ⟨oc, hoc, hocd⟩ := id z
  refine h { s with heap := h' } ⟨I.ok, I.os, I.bare, ⟨fun b o e n hb hx => ?_, fun b o e n hb hx => ?_, I.base.free, fun b o e hx => ?_, I.base.cv, I.base.cw, I.base.cG⟩, ⟨m, hn.sameBut hs (Ne.symm (jy x c hc)), fun j y v' e1 e2 e3 => ?_⟩, fun y c' e => ?_, I.free, I.d9, fun p hp => ?_, tracked ⟨oc, hoc, I.d9 x c hc⟩ hs, by simpa using I.len⟩ ⟨c, hs, .inr hc⟩
  ·exact (hs.2 b (Nat.ne_of_lt (Nat.lt_of_lt_of_le (Heap.lt_size e) (I.ok.cab x c xE hc)))).trans (I.base.keep b o e n hb hx)
  ·obtain ⟨sl, e1⟩ := I.base.slot b o e n hb hx
   exact ⟨sl, (hs.2 b (Nat.ne_of_lt (Nat.lt_of_lt_of_le (Heap.lt_size e) (I.ok.cab x c xE hc)))).trans e1⟩
  ·obtain ⟨o', e1⟩ := I.base.there b o e hx
   exact ⟨o', (hs.2 b (Nat.ne_of_lt (Nat.lt_of_lt_of_le (Heap.lt_size e) (I.ok.cab x c xE hc)))).trans e1⟩
  ·by_cases hj : j = i
   ·subst hj
    rw [hi] at e1; cases e1
    rw [List.getElem?_set_self Dj] at e2
    cases e2
    exact ⟨u, r, .inr ⟨.inl hk, c, hc, Dk⟩⟩
   ·rw [List.getElem?_set_ne (Ne.symm hj)] at e2
    obtain ⟨u', r', q⟩ := hl j y v' e1 e2 e3
    refine ⟨u', r', ?_⟩
    rcases q with q | ⟨k, c', e, z'⟩
    ·exact .inl q
    ·refine .inr ⟨k, c', e, z'.sameBut hs ?_⟩
     rintro rfl
     exact hj (Di hN e1 (I.ok.inj _ _ _ e hc ▸ hi))
  ·by_cases hcc : c' = c
   ·subst hcc; exact ⟨_, Dk⟩
   ·obtain ⟨w2, z2⟩ := I.cell y c' e
    exact ⟨w2, z2.sameBut hs hcc⟩
  ·obtain ⟨e, n, ne, nf, d⟩ := I.pin p hp
   refine ⟨(hs.2 p.1 ?_).trans e, n, ne, nf, d⟩
   intro q
   rw [q, hoc] at e
   have q' : oc = p.2 := Option.some.inj e
   exact d w' (by rw [<- q']; exact hocd)
theorem Dl {M : Model} {A : Around} {E : Value -> Shared -> Prop} {i : Nat} {x : Str} {v : V} {u : Value} {Q : Unit -> Shared -> Prop} (I : Inv X pins σ H s) (hN : X.N.Nodup) (hi : X.N[i]? = some x) (hx : Loc X.env.scope x) (r : RelV v u)
 (h : ∀ s', Inv X pins (σ.set i (some v)) H s' -> Q () s') (hf : X.fn x = true ∨ X.env.scope.names.lookup x = some .local := by first | exact .inl rfl | exact .inr rfl | assumption) : wpAny M A (storeName X.env x u) Q E s :=
 Js I hN hi hx r (fun s' I' _ => h s' I') hf
theorem Inv.Dm {s' : Shared} {ch : List Addr} (I : Inv X pins σ H s) (ho : s'.os = s.os) (u : Un (aN X.stack) ch H H' s.heap s'.heap) (ag : bh X.prog X.w H' s'.heap) (hg : AllBare s'.gens)
 (fE : ∀ b ∈ ch, (b ∈ X.ex ∨ X.s₀.heap.objs.size <= b) /\ b ≠ X.env.locals /\ (∀ x c, X.env.cells.lookup x = some c -> c ≠ b) /\ ∀ p ∈ X.pn ++ pins, p.1 ≠ b) : Inv X pins σ H' s' := by
 obtain ⟨h', g', d', t', o'⟩ := s'
 have e : o' = s.os := ho
 subst e
 exact I.call (g' := g') (t' := t') (d' := d') u ag hg fE
end
noncomputable abbrev XK := Value -> Option Addr -> Hp -> Prop
noncomputable abbrev St := List (Option V)
noncomputable abbrev VK := V -> Hp -> Prop
noncomputable abbrev TE := St -> Hp -> VK -> Prop
noncomputable abbrev TT := St -> Hp -> (Bool -> Hp -> Prop) -> Prop
noncomputable abbrev TA := St -> Hp -> (List V -> Hp -> Prop) -> Prop
structure Ends where
 nx : St -> Hp -> Prop
 rt : VK
 bk : St -> Hp -> Prop := fun _ _ => False
 ct : St -> Hp -> Prop := fun _ _ => False
noncomputable abbrev TS := Ends -> St -> Hp -> Prop
noncomputable def EP (X : Cx) (pins : List (Addr × Obj)) (σ : St) (Q : VK) (u : Value) (s' : Shared) : Prop := ∃ v H', Inv X pins σ H' s' /\ RelV v u /\ Q v H'
noncomputable def TP (X : Cx) (pins : List (Addr × Obj)) (σ : St) (Q : Bool -> Hp -> Prop) (b : Bool) (s' : Shared) : Prop := ∃ H', Inv X pins σ H' s' /\ Q b H'
noncomputable def AP (X : Cx) (pins : List (Addr × Obj)) (σ : St) (Q : List V -> Hp -> Prop) (us : List Value) (s' : Shared) : Prop := ∃ vs H', Inv X pins σ H' s' /\ Vals vs us /\ Q vs H'
noncomputable def SP (X : Cx) (pins : List (Addr × Obj)) (D : Ends) (f : Flow) (s' : Shared) : Prop :=
 match f with
 | .next => ∃ σ' H', Inv X pins σ' H' s' /\ D.nx σ' H'
 | .brk => ∃ σ' H', Inv X pins σ' H' s' /\ D.bk σ' H'
 | .cont => ∃ σ' H', Inv X pins σ' H' s' /\ D.ct σ' H'
 | .ret u => ∃ v σ' H', Inv X pins σ' H' s' /\ RelV v u /\ D.rt v H'
noncomputable def PE (X : Cx) (e : Expr) (t : TE) : Prop :=
 ∀ (pins : List (Addr × Obj)) (s : Shared) (σ : St) (H : Hp) (Q : VK), Inv X pins σ H s -> t σ H Q -> wpAny (model X.prog X.w) X.A (eval e X.env) (EP X pins σ Q) X.xe s
noncomputable def PT (X : Cx) (e : Expr) (t : TT) : Prop :=
 ∀ (pins : List (Addr × Obj)) (s : Shared) (σ : St) (H : Hp) (Q : Bool -> Hp -> Prop), Inv X pins σ H s -> t σ H Q -> wpAny (model X.prog X.w) X.A (isTrue e X.env (eval e X.env)) (TP X pins σ Q) X.xe s
noncomputable def PW (X : Cx) (e : Expr) (t : TT) : Prop :=
 ∀ (whole : Sem Value) (pins : List (Addr × Obj)) (s : Shared) (σ : St) (H : Hp) (Q : Bool -> Hp -> Prop), Inv X pins σ H s -> t σ H Q -> wpAny (model X.prog X.w) X.A (isTrue e X.env whole) (TP X pins σ Q) X.xe s
theorem PW.pt {X : Cx} {e : Expr} {t : TT} (h : PW X e t) : PT X e t := h _
noncomputable def PA (X : Cx) (es : List Expr) (t : TA) : Prop :=
 ∀ (pos : Pos) (pins : List (Addr × Obj)) (s : Shared) (σ : St) (H : Hp) (Q : List V -> Hp -> Prop), Inv X pins σ H s -> t σ H Q -> wpAny (model X.prog X.w) X.A (spliced (backTo pos (starEach es X.env))) (AP X pins σ Q) X.xe s
noncomputable def PS (X : Cx) (st : Stmt) (t : TS) : Prop :=
 ∀ (pins : List (Addr × Obj)) (s : Shared) (σ : St) (H : Hp) (D : Ends), Inv X pins σ H s -> t D σ H -> wpAny (model X.prog X.w) X.A (exec st X.env) (SP X pins D) X.xe s
noncomputable def bo (X : Cx) (st : List Stmt) (t : TS) : Prop :=
 ∀ (pins : List (Addr × Obj)) (s : Shared) (σ : St) (H : Hp) (D : Ends), Inv X pins σ H s -> t D σ H -> wpAny (model X.prog X.w) X.A (execs st X.env) (SP X pins D) X.xe s
theorem aq {α : Type} {t : Sem α} {Q Q' : α -> Shared -> Prop} {M : Model} {A : Around} {E : Value -> Shared -> Prop} {s : Shared} (h : wpAny M A t Q E s) (hQ : ∀ a s, Q a s -> Q' a s) : wpAny M A t Q' E s := wpAny_mono h hQ fun _ _ x => x
end L2
namespace L2
open PySem PySem.Spec PyProof.Rows
section
variable {X : Cx}
noncomputable def kZ (i : Nat) : TE := fun σ H Q => ∃ v, σ[i]? = some (some v) /\ Q v H
noncomputable def tC (v : V) : TE := fun _ H Q => Q v H
theorem Jv {i : Nat} {x : Str} {pos : Pos} (hN : X.N[i]? = some x) (hv : xC X.env.scope x) (hd : (x == ("__debug__" : Str)) = false := by decide) (dh : (x == ("__classdict__" : Str)) = false := by decide) : PE X (.Name x pos) (kZ i) := by
 intro pins s σ H Q I h
 obtain ⟨v, e, h⟩ := h
 obtain ⟨m, hn, hl⟩ := I.loc
 obtain ⟨u, r, l⟩ := hl i x v hN e hv
 have fin : EP X pins σ Q u s := ⟨v, H, I, r, h⟩
 rcases l with ⟨hk, hm⟩ | ⟨hk, c, hc, hcell⟩
 ·exact wpAny_Name (wpAny_loadName_local I.ok.kind hk hn hm fin) hd
 ·rcases hk with hk | hk
  ·exact wpAny_Name (wpAny_loadName_cell I.ok.kind hk hc hcell fin) hd
  ·exact wpAny_Name (wpAny_loadName_free I.ok.kind hk hc hcell fin dh) hd
theorem ae {i j pos} : PE X (.Constant (.int i) j pos) (tC (.int i)) := fun _ _ _ H _ I h => wpAny_Constant_int ⟨.int i, H, I.tok _, ⟨_, rfl⟩, h⟩
theorem k6 {b j pos} : PE X (.Constant (.bool b) j pos) (tC (.bl b)) := fun _ _ _ H _ I h => Constant_bool ⟨.bl b, H, I, rfl, h⟩
theorem eX {j pos} : PE X (.Constant .none j pos) (tC .non) := fun _ _ _ H _ I h => Constant_none ⟨.non, H, I, rfl, h⟩
theorem fF {x j pos} : PE X (.Constant (.str x) j pos) (tC (.str x)) := fun _ _ _ H _ I h => Calls.Constant_str ⟨.str x, H, I.tok _, ⟨_, rfl⟩, h⟩
noncomputable def Gl (X : Cx) (x : Str) : Prop := X.env.kindOf x = some .globalImplicit
theorem rR {E : Value -> Shared -> Prop} {pins : List (Addr × Obj)} {s : Shared} {σ : St} {H : Hp} {x : Str} {u : Value} {pos : Pos} {Q : Value -> Shared -> Prop} (I : Inv X pins σ H s) (hg : Gl X x) (hm : X.mg x = some u) (h : Q u s)
 (hd : (x == ("__debug__" : Str)) = false := by decide) : wpAny (model X.prog X.w) X.A (eval (.Name x pos) X.env) Q E s :=
 Calls.Name_function_global I.ok.kind hg (Calls.loadGlobal_global (by rw [I.ok.glob]; exact I.mod.glob.keeps I.bk) hm h) hd
theorem fG {E : Value -> Shared -> Prop} {pins : List (Addr × Obj)} {s : Shared} {σ : St} {H : Hp} {x : Str} {u : Value} {pos : Pos} {Q : Value -> Shared -> Prop} (I : Inv X pins σ H s) (hg : Gl X x) (hm : X.mg x = none) (hv : bootBuiltins x = some u) (h : Q u s)
 (hn : x ≠ "__name__" := by decide) (hd : (x == ("__debug__" : Str)) = false := by decide) : wpAny (model X.prog X.w) X.A (eval (.Name x pos) X.env) Q E s := by
 obtain ⟨mb, h1, h2⟩ := I.mod.blt
 exact Calls.Name_function_global I.ok.kind hg (Calls.loadGlobal_builtin (by rw [I.ok.glob]; exact I.mod.glob.keeps I.bk) hm (by rw [I.ok.blt]; exact h1.keeps I.bk) ((h2 x hn).trans hv) h) hd
theorem Jw {x : Str} {v : V} {u : Value} {pos : Pos} (hg : Gl X x) (hm : X.mg x = some u) (r : RelV v u) (hd : (x == ("__debug__" : Str)) = false := by decide) : PE X (.Name x pos) (tC v) :=
 fun _ _ _ H _ I h => rR I hg hm ⟨v, H, I, r, h⟩ hd
theorem rS {x : Str} {v : V} {u : Value} {pos : Pos} (hg : Gl X x) (hm : X.mg x = none) (hv : bootBuiltins x = some u) (r : RelV v u) (hn : x ≠ "__name__" := by decide) (hd : (x == ("__debug__" : Str)) = false := by decide) : PE X (.Name x pos) (tC v) :=
 fun _ _ _ H _ I h => fG I hg hm hv ⟨v, H, I, r, h⟩ hn hd
variable {a b : Expr} {ta tb : TE} {pos : Pos}
noncomputable def PC (X : Cx) (op : CmpOp) (a b : Expr) (t : TE) : Prop :=
 ∀ (pins : List (Addr × Obj)) (s : Shared) (σ : St) (H : Hp) (Q : VK), Inv X pins σ H s -> t σ H Q ->
  wpAny (model X.prog X.w) X.A (eval a X.env) (fun v s₁ => wpAny (model X.prog X.w) X.A (eval b X.env) (fun u s₂ => wpAny (model X.prog X.w) X.A (compareOp op v u) (EP X pins σ Q) X.xe s₂) X.xe s₁) X.xe s
theorem Dp (b : Expr) {op : CmpOp} (h : op ≠ .In) (h2 : op ≠ .NotIn) : behindInMarks op b = false := by
 have e1 : (op == CmpOp.In) = false := by cases op <;> first | rfl | exact absurd rfl h
 have e2 : (op == CmpOp.NotIn) = false := by cases op <;> first | rfl | exact absurd rfl h2
 cases b <;> simp [behindInMarks, e1, e2]
noncomputable def oA (ta : TE) : TE := fun σ H Q => ta σ H fun x H1 => Q (.bl (decide (x = .non))) H1
noncomputable def oB (ta : TE) : TE := fun σ H Q => ta σ H fun x H1 => Q (.bl (!decide (x = .non))) H1
theorem RelV.Dq {x : V} {v : Value} (r : RelV x v) : (v == Value.none) = decide (x = .non) := by
 cases x with
 | non => cases r; rfl
 | bl _ => cases r; rfl
 | int _ => obtain ⟨t, rfl⟩ := r; rfl
 | str _ => obtain ⟨t, rfl⟩ := r; rfl
 | byt _ => obtain ⟨t, rfl⟩ := r; rfl
 | flt _ => obtain ⟨t, rfl⟩ := r; rfl
 | ref _ => cases r; rfl
 | ty _ => cases r; rfl
theorem jz {j pos'} (ha : PE X a ta) : PC X .Is a (.Constant .none j pos') (oA ta) := by
 intro pins s σ H Q I h
 refine aq (ha pins s σ H _ I h) fun v s1 ⟨x, H1, I1, r1, q1⟩ => ?_
 exact Constant_none (is_none_gen ⟨.bl _, H1, I1, by rw [r1.Dq]; rfl, q1⟩)
theorem h9 {j pos'} (ha : PE X a ta) : PC X .IsNot a (.Constant .none j pos') (oB ta) := by
 intro pins s σ H Q I h
 refine aq (ha pins s σ H _ I h) fun v s1 ⟨x, H1, I1, r1, q1⟩ => ?_
 exact Constant_none (isnot_none_gen ⟨.bl _, H1, I1, by rw [r1.Dq]; rfl, q1⟩)
noncomputable def tB (t : TE) : TT := fun σ H Q => t σ H fun x H1 => ∃ c, x = .bl c /\ Q c H1
theorem Dr {op : CmpOp} {t : TE} (h : PC X op a b t) (h1 : behindInMarks op b = false := by first | exact Dp _ (by decide) (by decide) | rfl) : PE X (.Compare a [op] [b] pos) t := fun pins s σ H Q I hw => wpAny_Compare1 (h pins s σ H Q I hw) h1
theorem c7 {op : CmpOp} {t : TE} (h : PC X op a b t) (h1 : behindInMarks op b = false := by first | exact Dp _ (by decide) (by decide) | rfl) : PT X (.Compare a [op] [b] pos) (tB t) := by
 intro pins s σ H Q I hw
 refine wpAny_isTrue_Compare1 (aq (h pins s σ H _ I hw) fun v s1 h1 => aq h1 fun u s2 h2 => aq h2 fun c s3 ⟨x, H1, I1, r1, q1⟩ => ?_) h1
 obtain ⟨d, rfl, q⟩ := q1
 cases r1
 exact wpAny_truthy_bool ⟨H1, I1, q⟩
theorem ed {e : Expr} {t : TE} (h : PE X e t) (he : ∀ whole, isTrue e X.env whole = (do let v <- whole; standAt e.pos; holding [v] (truthy v)) := by intro _; rfl) : PT X e (tB t) := by
 intro pins s σ H Q I hw
 refine isTrue_plain (aq (h pins s σ H _ I hw) fun v s1 ⟨x, H1, I1, r1, q1⟩ => ?_) (he _)
 obtain ⟨d, rfl, q⟩ := q1
 cases r1
 exact wpAny_truthy_bool ⟨H1, I1, q⟩
variable {tA rT : TT} {rest : List Expr}
noncomputable def oE (t u : TT) : TT := fun σ H Q => t σ H fun c H1 => if c = true then u σ H1 Q else Q false H1
noncomputable def oF (t u : TT) : TT := fun σ H Q => t σ H fun c H1 => if c = true then Q true H1 else u σ H1 Q
noncomputable def oG (t : TT) : TT := fun σ H Q => t σ H fun c H1 => Q (!c) H1
theorem rV (ha : PT X a tA) : PW X (.BoolOp .And [a] pos) tA := by
 intro wh pins s σ H Q I h
 refine isTrue_and (aq (ha pins s σ H Q I h) fun c s1 e => ?_)
 cases c with
 | true => exact isTrue_and_nil e
 | false => exact e
theorem gf (ha : PT X a tA) : PW X (.BoolOp .Or [a] pos) tA := by
 intro wh pins s σ H Q I h
 refine isTrue_or (aq (ha pins s σ H Q I h) fun c s1 e => ?_)
 cases c with
 | false => exact isTrue_or_nil e
 | true => exact e
theorem oH (ha : PT X a tA) (hb : PW X (.BoolOp .And (b :: rest) pos) rT) : PW X (.BoolOp .And (a :: b :: rest) pos) (oE tA rT) := by
 intro wh pins s σ H Q I h
 refine isTrue_and (aq (ha pins s σ H _ I h) fun c s1 ⟨H1, I1, q1⟩ => ?_)
 cases c with
 | true => exact hb wh pins s1 σ H1 Q I1 q1
 | false => exact ⟨H1, I1, q1⟩
theorem ee (ha : PT X a tA) (hb : PW X (.BoolOp .Or (b :: rest) pos) rT) : PW X (.BoolOp .Or (a :: b :: rest) pos) (oF tA rT) := by
 intro wh pins s σ H Q I h
 refine isTrue_or (aq (ha pins s σ H _ I h) fun c s1 ⟨H1, I1, q1⟩ => ?_)
 cases c with
 | true => exact ⟨H1, I1, q1⟩
 | false => exact hb wh pins s1 σ H1 Q I1 q1
theorem eY (ha : PT X a tA) : PT X (.UnaryOp .Not a pos) (oG tA) := by
 intro pins s σ H Q I h
 exact isTrue_not (ha pins s σ H (fun c H1 => Q (!c) H1) I h)
noncomputable def oI (ta tb : TE) : TE := fun σ H Q => ta σ H fun x H1 => ∃ c, x = .bl c /\ if c = true then tb σ H1 Q else Q (.bl false) H1
noncomputable def rW (ta tb : TE) : TE := fun σ H Q => ta σ H fun x H1 => ∃ c, x = .bl c /\ if c = true then Q (.bl true) H1 else tb σ H1 Q
noncomputable def oJ (ta : TE) : TE := fun σ H Q => ta σ H fun x H1 => ∃ c, x = .bl c /\ Q (.bl (!c)) H1
theorem oK {op} {t : TE} (h : PE X a t) : PE X (.BoolOp op [a] pos) t := fun pins s σ H Q I hw => BoolOp_one (h pins s σ H Q I hw)
theorem k7 (ha : PE X a ta) (hb : PE X (.BoolOp .And (b :: rest) pos) tb) : PE X (.BoolOp .And (a :: b :: rest) pos) (oI ta tb) := by
 intro pins s σ H Q I h
 refine BoolOp_and (aq (ha pins s σ H _ I h) fun v s1 ⟨x, H1, I1, r1, q1⟩ => ?_)
 obtain ⟨c, rfl, q1⟩ := q1
 cases r1
 refine wpAny_truthy_bool ?_
 cases c with
 | true => exact hb pins s1 σ H1 Q I1 q1
 | false => exact ⟨.bl false, H1, I1, rfl, q1⟩
theorem Jx (ha : PE X a ta) : PE X (.UnaryOp .Not a pos) (oJ ta) := by
 intro pins s σ H Q I h
 refine UnaryOp_ (aq (ha pins s σ H _ I h) fun v s1 ⟨x, H1, I1, r1, q1⟩ => ?_)
 obtain ⟨c, rfl, q1⟩ := q1
 cases r1
 exact not_of (wpAny_truthy_bool ⟨.bl (!c), H1, I1, rfl, q1⟩)
noncomputable def oM (t : TT) (ta tb : TE) : TE := fun σ H Q => t σ H fun c H1 => if c = true then ta σ H1 Q else tb σ H1 Q
theorem Ds {c : Expr} (hc : PT X c tA) (ha : PE X a ta) (hb : PE X b tb) : PE X (.IfExp c a b pos) (oM tA ta tb) := by
 intro pins s σ H Q I h
 refine wpAny_IfExp (aq (hc pins s σ H _ I h) fun d s1 ⟨H1, I1, q1⟩ => ?_)
 cases d with
 | true => exact ha pins s1 σ H1 Q I1 q1
 | false => exact hb pins s1 σ H1 Q I1 q1
end
end L2
namespace L2
open PySem PySem.Spec PyProof.Rows
noncomputable def ai (K : PySem.W.Frag) (H : Hp) (a : Addr) (xs : List V) : Prop :=
 Rd H a (.lst xs) ∨
  ∃ (o : Obj) (af : Array Value) (n : Nat), K.lookup a = some o /\ o.cls = .type "list" /\ o.dict = none /\ o.data = .seq af n /\ af.size <= sizeLine /\ Vals xs af.toList
noncomputable def ar (K : PySem.W.Frag) (H : Hp) (a : Addr) (xs : List V) : Prop :=
 Rd H a (.tup xs) ∨
  ∃ (o : Obj) (af : Array Value) (n : Nat), K.lookup a = some o /\ o.cls = .type "tuple" /\ o.data = .seq af n /\ af.size <= sizeLine /\ Vals xs af.toList
noncomputable def Jy : Value -> Option V
 | .none => some .non
 | .bool b => some (.bl b)
 | .int i _ => some (.int i)
 | .str x _ => some (.str x)
 | .bytes b _ => some (.byt b)
 | .float b _ => some (.flt b)
 | .ref a => some (.ref a)
 | .type n => some (.ty n)
 | _ => none
theorem RelV.abs {x : V} {u : Value} (r : RelV x u) : Jy u = some x := by
 cases x with
 | non => cases r; rfl
 | bl _ => cases r; rfl
 | int _ => obtain ⟨t, rfl⟩ := r; rfl
 | str _ => obtain ⟨t, rfl⟩ := r; rfl
 | byt _ => obtain ⟨t, rfl⟩ := r; rfl
 | flt _ => obtain ⟨t, rfl⟩ := r; rfl
 | ref _ => cases r; rfl
 | ty _ => cases r; rfl
theorem RelV.inj {x y : V} {u : Value} (r : RelV x u) (q : RelV y u) : x = y := Option.some.inj (r.abs.symm.trans q.abs)
theorem Vals.inj : ∀ {xs ys : List V} {us : List Value}, Vals xs us -> Vals ys us -> xs = ys
 | _, _, _, .nil, .nil => rfl
 | _, _, _, .cons r t, .cons r' t' => by rw [r.inj r', Vals.inj t t']
section
variable {X : Cx} {pins : List (Addr × Obj)} {σ : St} {H : Hp} {s : Shared} {a : Addr} {xs ys : List V}
theorem ai.of {K : PySem.W.Frag} (h : H a = some (.lst xs)) : ai K H a xs := .inl (.inl h)
theorem ar.of {K : PySem.W.Frag} (h : H a = some (.tup xs)) : ar K H a xs := .inl (.inl h)
theorem Inv.list (I : Inv X pins σ H s) (h : ai X.K H a xs) : ∃ af : List Value, Vals xs af /\ PlainL s.heap a af.toArray /\ xs.length <= sizeLine := by
 rcases h with h | ⟨o, af, n, hk, hc, hd, hs, hz, r⟩
 ·obtain ⟨z, af, n, r, e⟩ := h.ok I.ag
  exact ⟨af, r, ⟨_, n, e, rfl, rfl, rfl⟩, z⟩
 ·refine ⟨af.toList, r, ⟨o, n, I.bM a o hk, hc, hd, by simpa using hs⟩, ?_⟩
  have e := r.length
  simp only [Array.length_toList] at e
  omega
theorem Inv.tuple (I : Inv X pins σ H s) (h : ar X.K H a xs) : ∃ af : List Value, Vals xs af /\ IsTup s.heap a af.toArray /\ xs.length <= sizeLine := by
 rcases h with h | ⟨o, af, n, hk, hc, hs, hz, r⟩
 ·obtain ⟨z, af, r, p⟩ := h.ok I.ag
  exact ⟨af, r, p, z⟩
 ·refine ⟨af.toList, r, ⟨o, I.bM a o hk, hc, n, by simpa using hs⟩, ?_⟩
  have e := r.length
  simp only [Array.length_toList] at e
  omega
theorem Inv.Dt (I : Inv X pins σ H s) (h : ai X.K H a xs) (h' : ai X.K H a ys) : xs = ys := by
 obtain ⟨af, r, ⟨o, n, e, _, _, d⟩, _⟩ := I.list h
 obtain ⟨its', r', ⟨o', n', e', _, _, d'⟩, _⟩ := I.list h'
 rw [e] at e'; cases e'
 rw [d] at d'
 injection d' with d1 _
 have : af = its' := by simpa using congrArg Array.toList d1
 subst this
 exact r.inj r'
theorem Inv.Jz (I : Inv X pins σ H s) (h : ar X.K H a xs) (h' : ar X.K H a ys) : xs = ys := by
 obtain ⟨af, r, ⟨o, e, _, n, d⟩, _⟩ := I.tuple h
 obtain ⟨its', r', ⟨o', e', _, n', d'⟩, _⟩ := I.tuple h'
 rw [e] at e'; cases e'
 rw [d] at d'
 injection d' with d1 _
 have : af = its' := by simpa using congrArg Array.toList d1
 subst this
 exact r.inj r'
end
noncomputable abbrev Cx.ef (X : Cx) (E : Value -> Shared -> Prop) : Cx := { X with xe := E }
noncomputable abbrev Cx.fH (X : Cx) : Cx := X.ef fun _ _ => False
theorem Cx.Ok.ef {X : Cx} (ok : X.Ok) (E : Value -> Shared -> Prop) : (X.ef E).Ok :=
 ⟨ok.mod, ok.kind, ok.glob, ok.blt, ok.above, ok.inj, ok.has, ok.cab, ok.hd, ok.frames, ok.stk, ok.exf, ok.bs, ok.bsz, ok.noex, ok.exfs, ok.d8, ok.frf⟩
theorem Cx.Ok.fI {X : Cx} {E : Value -> Shared -> Prop} (ok : (X.ef E).Ok) : X.Ok :=
 ⟨ok.mod, ok.kind, ok.glob, ok.blt, ok.above, ok.inj, ok.has, ok.cab, ok.hd, ok.frames, ok.stk, ok.exf, ok.bs, ok.bsz, ok.noex, ok.exfs, ok.d8, ok.frf⟩
section
variable {X : Cx} {pins : List (Addr × Obj)} {σ : St} {H : Hp} {s : Shared} {E : Value -> Shared -> Prop}
theorem Inv.ef (I : Inv X pins σ H s) (E : Value -> Shared -> Prop) : Inv (X.ef E) pins σ H s := ⟨I.ok.ef E, I.os, I.bare, I.base, I.loc, I.cell, I.free, I.d9, I.pin, I.ag, I.len⟩
theorem Inv.fI (I : Inv (X.ef E) pins σ H s) : Inv X pins σ H s := ⟨I.ok.fI, I.os, I.bare, I.base, I.loc, I.cell, I.free, I.d9, I.pin, I.ag, I.len⟩
theorem SP.fI {D : Ends} {f : Flow} {s' : Shared} (h : SP (X.ef E) pins D f s') : SP X pins D f s' := by
 cases f with
 | next => obtain ⟨σ', H', I, q⟩ := h; exact ⟨σ', H', I.fI, q⟩
 | brk => obtain ⟨σ', H', I, q⟩ := h; exact ⟨σ', H', I.fI, q⟩
 | cont => obtain ⟨σ', H', I, q⟩ := h; exact ⟨σ', H', I.fI, q⟩
 | ret u => obtain ⟨v, σ', H', I, r, q⟩ := h; exact ⟨v, σ', H', I.fI, r, q⟩
theorem PE.fH {e : Expr} {t : TE} (h : PE X.fH e t) : PE X e t := fun pins s σ H Q I hw =>
 wpAny_mono (h pins s σ H Q (I.ef _) hw) (fun _ _ ⟨v, H', I', r, q⟩ => ⟨v, H', I'.fI, r, q⟩) fun _ _ z => False.elim z
theorem PT.fH {e : Expr} {t : TT} (h : PT X.fH e t) : PT X e t := fun pins s σ H Q I hw =>
 wpAny_mono (h pins s σ H Q (I.ef _) hw) (fun _ _ ⟨H', I', q⟩ => ⟨H', I'.fI, q⟩) fun _ _ z => False.elim z
theorem bo.fH {st : List Stmt} {t : TS} (h : bo X.fH st t) : bo X st t := fun pins s σ H D I hw =>
 wpAny_mono (h pins s σ H D (I.ef _) hw) (fun _ _ q => q.fI) fun _ _ z => False.elim z
end
section
variable {X : Cx} {st : Stmt} {rest : List Stmt} {t u : TS} {e : Expr} {te : TE} {pos : Pos}
noncomputable def oN : TS := fun D σ H => D.nx σ H
noncomputable def k8 (t u : TS) : TS := fun D σ H => t { D with nx := u D } σ H
theorem bf : bo X [] oN := fun _ _ σ H _ I h => wpAny_execs_nil ⟨σ, H, I, h⟩
theorem ao (h1 : PS X st t) (h2 : bo X rest u) : bo X (st :: rest) (k8 t u) := by
 intro pins s σ H D I h
 refine wpAny_execs_cons (aq (h1 pins s σ H { D with nx := u D } I h) fun f s1 q => ?_)
 cases f with
 | next =>
  obtain ⟨σ', H', I', q⟩ := q
  exact h2 pins s1 σ' H' D I' q
 | ret v => exact q
 | brk => exact q
 | cont => exact q
theorem ax (h1 : PS X st t) : bo X [st] t := by
 intro pins s σ H D I h
 refine wpAny_execs_cons (aq (h1 pins s σ H D I h) fun f s1 q => ?_)
 cases f with
 | next => exact wpAny_execs_nil q
 | ret v => exact q
 | brk => exact q
 | cont => exact q
theorem Inv.quiet {pins : List (Addr × Obj)} {σ : St} {H : Hp} {s : Shared} (I : Inv X pins σ H s) : interactive X.env = false := by simp [interactive, I.ok.kind]
noncomputable def oO (te : TE) : TS := fun D σ H => te σ H fun _ H1 => D.nx σ H1
theorem dE (he : PE X e te) (hs : swapsWith e none pos.line X.env = pure false := by rfl) : PS X (.Expr e pos) (oO te) := by
 intro pins s σ H D I h
 exact wpAny_Expr_any (aq (he pins s σ H _ I h) fun v s1 ⟨x, H1, I1, r1, q1⟩ => ⟨σ, H1, I1, q1⟩) I.quiet hs
noncomputable def oP (te : TE) : TS := fun D σ H => te σ H D.rt
theorem aV (he : PE X e te) : PS X (.Return (some e) pos) (oP te) := by
 intro pins s σ H D I h
 exact wpAny_Return_some (aq (he pins s σ H _ I h) fun v s1 ⟨x, H1, I1, r1, q1⟩ => ⟨x, σ, H1, I1, r1, q1⟩)
noncomputable def oQ (c : TT) (t u : TS) : TS := fun D σ H => c σ H fun b H1 => if b = true then t D σ H1 else u D σ H1
theorem bc {c : Expr} {a b : List Stmt} {tc : TT} (hc : PT X c tc) (ha : bo X a t) (hb : bo X b u) : PS X (.If c a b pos) (oQ tc t u) := by
 intro pins s σ H D I h
 refine wpAny_If (aq (hc pins s σ H _ I h) fun d s1 ⟨H1, I1, q1⟩ => ?_)
 cases d with
 | true => exact ha pins s1 σ H1 D I1 q1
 | false => exact hb pins s1 σ H1 D I1 q1
end
noncomputable abbrev TG := V -> St -> Hp -> (St -> Hp -> Prop) -> Prop
noncomputable abbrev jA := List V -> St -> Hp -> (St -> Hp -> Prop) -> Prop
noncomputable def PG (X : Cx) (target : Expr) (t : TG) : Prop :=
 ∀ (pins : List (Addr × Obj)) (s : Shared) (σ : St) (H : Hp) (v : V) (u : Value) (Q : St -> Hp -> Prop), Inv X pins σ H s -> RelV v u -> t v σ H Q ->
  wpAny (model X.prog X.w) X.A (assign target X.env u) (fun _ s' => ∃ σ' H', Inv X pins σ' H' s' /\ Q σ' H') X.xe s
noncomputable def rX (X : Cx) (ts : List Expr) (t : jA) : Prop :=
 ∀ (pins : List (Addr × Obj)) (s : Shared) (σ : St) (H : Hp) (vs : List V) (us : List Value) (Q : St -> Hp -> Prop), Inv X pins σ H s -> Vals vs us -> t vs σ H Q ->
  wpAny (model X.prog X.w) X.A (assignInOrder ((assignEach ts X.env).map (·.2)) us) (fun _ s' => ∃ σ' H', Inv X pins σ' H' s' /\ Q σ' H') X.xe s
noncomputable abbrev xF := V -> V -> V -> Hp -> (Hp -> Prop) -> Prop
noncomputable def Du (X : Cx) (t : xF) : Prop :=
 ∀ (pins : List (Addr × Obj)) (s : Shared) (σ : St) (H : Hp) (o i v : V) (ov iv u : Value) (Q : Hp -> Prop), Inv X pins σ H s -> RelV o ov -> RelV i iv -> RelV v u -> t o i v H Q ->
  wpAny (model X.prog X.w) X.A (setItem ov iv u) (fun _ s' => ∃ H', Inv X pins σ H' s' /\ Q H') X.xe s
section
variable {X : Cx} {pos : Pos}
noncomputable def bG (i : Nat) : TG := fun v σ H Q => Q (σ.set i (some v)) H
theorem bz {i : Nat} {x : Str} (hN : X.N.Nodup) (hi : X.N[i]? = some x) (hx : Loc X.env.scope x) (hf : X.fn x = true ∨ X.env.scope.names.lookup x = some .local := by first | exact .inl rfl | exact .inr rfl | assumption) : PG X (.Name x pos) (bG i) := by
 intro pins s σ H v u Q I r h
 exact wpAny_assign_Name (Dl I hN hi hx r (fun s' I' => ⟨_, H, I', h⟩) hf)
noncomputable def gh : jA := fun vs σ H Q => vs = [] /\ Q σ H
noncomputable def b8 (t : TG) (u : jA) : jA := fun vs σ H Q => ∃ v r, vs = v :: r /\ t v σ H fun σ' H' => u r σ' H' Q
theorem jB : rX X [] gh := by
 intro pins s σ H vs us Q I r h
 obtain ⟨e, h⟩ := h
 subst e
 cases r
 exact assignInOrder_nil ⟨σ, H, I, h⟩
theorem c8 {e : Expr} {es : List Expr} {t : TG} {u : jA} (h1 : PG X e t) (h2 : rX X es u)
 (hs : (assignEach (e :: es) X.env).map (·.2) = assign e X.env :: (assignEach es X.env).map (·.2) := by rfl) : rX X (e :: es) (b8 t u) := by
 intro pins s σ H vs us Q I r h
 obtain ⟨v, vr, e1, h⟩ := h
 subst e1
 cases r with
 | cons r rr =>
  rw [hs]
  refine assignInOrder_cons (aq (h1 pins s σ H _ _ _ I r h) fun _ s1 ⟨σ1, H1, I1, q1⟩ => ?_)
  exact h2 pins s1 σ1 H1 _ _ Q I1 rr q1
noncomputable def gk (K : PySem.W.Frag) (n : Nat) (t : jA) : TG := fun v σ H Q => ∃ a xs, v = .ref a /\ ar K H a xs /\ xs.length = n /\ t xs σ H Q
theorem jC {es : List Expr} {k : Nat} {t : jA} {n : Nat} (hc : X.calm = true) (h : rX X es t)
 (hn : (assignEach es X.env).length = n := by rfl) (dF : (assignEach es X.env).findIdx? (·.1) = none := by rfl) : PG X (.Tuple es k pos) (gk X.K n t) := by
 intro pins s σ H v u Q I r hw
 obtain ⟨a, xs, e1, hq, hl, hw⟩ := hw
 subst e1
 cases r
 obtain ⟨af, rv, ht, hz⟩ := I.tuple hq
 refine assign_Tuple_tuple (I.ok.hd hc) ht (by simp [hn, <- hl, rv.length]) dF fun h' hx => ?_
 have I1 : Inv X pins σ H { s with heap := h' } := I.kept (t' := s.toks) fun b o e => hx b o (Nat.ne_of_lt (Heap.lt_size e)) e
 exact h pins _ σ H xs _ Q I1 (by simpa using rv) hw
noncomputable def gm (to ti : TE) (t : xF) : TG := fun v σ H Q => to σ H fun o H1 => ti σ H1 fun i H2 => t o i v H2 fun H3 => Q σ H3
theorem xG {o i : Expr} {to ti : TE} {t : xF} (ho : PE X o to) (hi : PE X i ti) (hs : Du X t)
 (ha : ∀ v, assign (.Subscript o i pos) X.env v = (do
   let ov <- holding [v] (eval o X.env)
   let iv <- holding [v, ov] (eval i X.env)
   standAt pos
   holding [v, ov, iv] (setItem ov iv v)
   release [v, ov, iv] []) := by intro _; rfl) : PG X (.Subscript o i pos) (gm to ti t) := by
 intro pins s σ H v u Q I r h
 rw [ha]
 refine wpAny_bind (wpAny_holding (aq (ho pins s σ H _ I h) fun ov s1 ⟨x, H1, I1, r1, q1⟩ => ?_))
 refine wpAny_bind (wpAny_holding (aq (hi pins s1 σ H1 _ I1 q1) fun iv s2 ⟨y, H2, I2, r2, q2⟩ => ?_))
 refine wpAny_bind (wpAny_standAt (wpAny_bind (wpAny_holding (aq (hs pins s2 σ H2 x y v ov iv u _ I2 r1 r2 r q2) fun _ s3 ⟨H3, I3, q3⟩ => ?_))))
 exact wpAny_release ⟨σ, H3, I3, q3⟩
noncomputable def k9 (te : TE) (g : TG) : TS := fun D σ H => te σ H fun x H1 => g x σ H1 D.nx
theorem xH {tg e : Expr} {te : TE} {g : TG} (he : PE X e te) (hg : PG X tg g) (hs : swapsWithSole [tg] e pos.line X.env = pure false := by rfl) (hw : swappedStores [tg] e X.env = pure none := by rfl)
 (h1 : (assignEach [tg] X.env).map (·.2) = [assign tg X.env] := by rfl) : PS X (.Assign [tg] e pos) (k9 te g) := by
 intro pins s σ H D I h
 refine wpAny_Assign_stores (aq (he pins s σ H _ I h) fun v s1 ⟨x, H1, I1, r1, q1⟩ => ?_) hs hw
 rw [h1]
 exact aq (hg pins s1 σ H1 x v _ I1 r1 q1) fun _ s2 q => q
theorem aF {i : Nat} {x : Str} {e : Expr} {te : TE} {pos' : Pos} (hN : X.N.Nodup) (hi : X.N[i]? = some x) (hx : Loc X.env.scope x) (he : PE X e te) (hs : swapsWith e (some (.Name x pos')) pos.line X.env = pure false := by rfl) (hf : X.fn x = true ∨ X.env.scope.names.lookup x = some .local := by first | exact .inl rfl | exact .inr rfl | assumption) :
 PS X (.Assign [.Name x pos'] e pos) (k9 te (bG i)) := by
 intro pins s σ H D I h
 refine wpAny_Assign_Name (aq (he pins s σ H _ I h) fun v s1 ⟨y, H1, I1, r1, q1⟩ => ?_) hs
 exact Dl I1 hN hi hx r1 (fun s2 I2 => ⟨_, H1, I2, q1⟩) hf
end
section
variable {X : Cx} {pos : Pos}
end
structure It where
 go : Nat -> Hp -> Prop
 yld : Nat -> Hp -> V -> Hp -> Prop
 stop : Nat -> Hp -> Prop
noncomputable def cI (X : Cx) (pins : List (Addr × Obj)) (H : Hp) (b : Addr) : Prop :=
 H b = none /\ b ≠ X.env.locals /\ b ∉ X.fs /\ (b ∈ X.ex ∨ X.s₀.heap.objs.size <= b) /\ (∀ x c, X.env.cells.lookup x = some c -> c ≠ b) /\ ∀ p ∈ X.pn ++ pins, p.1 ≠ b
theorem Inv.gp {X : Cx} {pins : List (Addr × Obj)} {σ : St} {H H' : Hp} {s : Shared} {b : Addr} (I : Inv X pins σ H s) (hb : s.heap.objs.size <= b) (hn : H' b = none) : cI X pins H' b := by
 refine ⟨hn, Nat.ne_of_gt (Nat.lt_of_lt_of_le I.lt hb), I.xD hb, .inr (Nat.le_trans I.sz hb), fun x c e z => ?_, fun p hp z => ?_⟩
 ·obtain ⟨v, q⟩ := I.cell x c e
  exact absurd (Nat.lt_of_lt_of_le q.lt (by rw [z]; exact hb)) (Nat.lt_irrefl _)
 ·exact absurd (Nat.lt_of_lt_of_le (Heap.lt_size (I.pin p hp).1) (by rw [z]; exact hb)) (Nat.lt_irrefl _)
structure Turn (P : Program) (w : World) (K : PySem.W.Frag) (tg : Expr) (J : It) (fp : List Addr) (it : Addr) (tn : Nat -> Heap -> Prop) : Prop where
 mem : it ∈ fp
 obj : ∀ i h, tn i h -> ∀ b ∈ fp, ∃ o, h.get? b = some o /\ ∀ v, o.data ≠ .cell v
 keep : ∀ i h h', tn i h -> (∀ b ∈ fp, ∀ o, h.get? b = some o -> h'.get? b = some o) -> tn i h'
 item : ∀ (X : Cx), X.prog = P -> X.w = w -> X.K = K -> X.calm = true -> ∀ (i : Nat) (pins : List (Addr × Obj)) (s : Shared) (σ : St) (H : Hp) (E : Value -> Shared -> Prop), Inv X pins σ H s -> (∀ b ∈ fp, cI X pins H b) -> tn i s.heap -> J.go i H ->
  wpAny (model P w) X.A (pyNext (.ref it)) (fun r s1 => ∃ u, r = some u /\
   wpAny (model P w) X.A (letOwnedTupleGo tg (.ref it) u) (fun _ s2 => ∃ x H', Inv X pins σ H' s2 /\ RelV x u /\ J.yld i H x H' /\ tn (i + 1) s2.heap /\ ∀ b ∈ fp, H' b = none) E s1) E s
 done : ∀ (X : Cx), X.prog = P -> X.w = w -> X.K = K -> X.calm = true -> ∀ (i : Nat) (pins : List (Addr × Obj)) (s : Shared) (σ : St) (H : Hp) (E : Value -> Shared -> Prop), Inv X pins σ H s -> (∀ b ∈ fp, cI X pins H b) -> tn i s.heap -> J.stop i H ->
  wpAny (model P w) X.A (pyNext (.ref it)) (fun r s1 => r = none /\ Inv X pins σ H s1) E s
 self : ∀ (A : Around) (i : Nat) (s : Shared) (Q : Value -> Shared -> Prop) (E : Value -> Shared -> Prop), tn i s.heap -> Q (.ref it) s -> wpAny (model P w) A (pyIter (.ref it)) Q E s
noncomputable abbrev TI := St -> Hp -> (It -> Hp -> Prop) -> Prop
noncomputable def Dv (X : Cx) (pins : List (Addr × Obj)) (σ : St) (tg : Expr) (R : It -> Hp -> Prop) (lb : Value) (s2 : Shared) : Prop :=
 ∃ (it : Addr) (fp : List Addr) (tn : Nat -> Heap -> Prop) (J : It) (H' : Hp), lb = .ref it /\ Inv X pins σ H' s2 /\ Turn X.prog X.w X.K tg J fp it tn /\ tn 0 s2.heap /\ (∀ b ∈ fp, cI X pins H' b) /\ R J H'
noncomputable def PI (X : Cx) (tg iter : Expr) (wi : TI) : Prop :=
 ∀ (pins : List (Addr × Obj)) (s : Shared) (σ : St) (H : Hp) (R : It -> Hp -> Prop), Inv X pins σ H s -> wi σ H R ->
  wpAny (model X.prog X.w) X.A (eval iter X.env) (fun v s1 => wpAny (model X.prog X.w) X.A (pyIter v) (Dv X pins σ tg R) X.xe s1) X.xe s
theorem oR {M : Model} {A : Around} {E : Value -> Shared -> Prop} {s : Shared} {tg : Expr} {it : Addr} {u : Value} {o : Obj} {n : String} {vs : Array Value} {Q : Unit -> Shared -> Prop} (ho : s.heap.get? it = some o) (hc : o.cls = .type n) (hd : o.data = .fields vs)
 (hn : ["enumerate", "zip", "dict_itemiterator", "dict_reverseitemiterator", "odict_iterator", "itertools.zip_longest", "itertools.pairwise"].contains n = false) (hQ : Q () s) : wpAny M A (letOwnedTupleGo tg (.ref it) u) Q E s := by
 unfold letOwnedTupleGo
 cases tg <;> first
  | exact wpAny_pure hQ
  | (cases u <;> first
      | exact wpAny_pure hQ
      | (refine wpAny_bind (wpAny_load ho ?_)
         rw [hc, hd]
         show wpAny M A (if (["enumerate", "zip", "dict_itemiterator", "dict_reverseitemiterator", "odict_iterator", "itertools.zip_longest", "itertools.pairwise"].contains n && vs[0]? == some (rawInt _)) = true then _ else _) Q E s
         rw [if_neg (by intro h; rw [hn, Bool.false_and] at h; cases h)]
         exact wpAny_pure hQ))
noncomputable def eZ (K : PySem.W.Frag) (a : Addr) : It :=
 ⟨fun i H => ∃ xs x, ai K H a xs /\ xs[i]? = some x, fun i H x H' => H' = H /\ ∀ xs, ai K H a xs -> xs[i]? = some x, fun i H => ∃ xs, ai K H a xs /\ xs.length <= i⟩
noncomputable def oT (K : PySem.W.Frag) (a : Addr) : It :=
 ⟨fun i H => ∃ xs x, ar K H a xs /\ xs[i]? = some x, fun i H x H' => H' = H /\ ∀ xs, ar K H a xs -> xs[i]? = some x, fun i H => ∃ xs, ar K H a xs /\ xs.length <= i⟩
noncomputable def e9 (lo : Int) (n : Nat) : It := ⟨fun i _ => i < n, fun i H x H' => H' = H /\ x = .int (lo + i), fun i _ => n <= i⟩
theorem JA {P : Program} {w : World} {K : PySem.W.Frag} {tg : Expr} (a it : Addr) : Turn P w K tg (eZ K a) [it] it (fun i h => h.IsListIter it a i) where
 mem := by simp
 obj := fun i h st b hb => by
  have e : b = it := by simpa using hb
  subst e
  obtain ⟨o, e, c, d⟩ := st
  exact ⟨o, e, fun v z => by rw [d] at z; cases z⟩
 keep := fun i h h' st k => st.at fun o e => k it (by simp) o e
 item := by
  intro X hP hw hK hc i pins s σ H E I hf st hg
  subst hP hw hK
  obtain ⟨xs, x, hq, hx⟩ := hg
  obtain ⟨af, rv, p, hz⟩ := I.list hq
  obtain ⟨u, hu, ru⟩ := rv.get hx
  obtain ⟨f0, f1, f2, f3, f4, f5⟩ := hf it (by simp)
  refine wpAny_pyNext_list_item st p.isList (x := u) (by simpa using hu) fun h' di sb => ?_
  have I1 : Inv X pins σ H { s with heap := h' } := I.turned (t' := s.toks) (fun b o hb e => (sb.2 b hb).trans e) f0 f1 f3 f4 f5
  obtain ⟨o, e, c, d⟩ := id di
  exact ⟨u, rfl, oR (s := { s with heap := h' }) e c d (by decide) ⟨x, H, I1, ru, ⟨rfl, fun ys hy => by rw [I.Dt hy hq]; exact hx⟩, di, fun b hb => (hf b hb).1⟩⟩
 done := by
  intro X hP hw hK hc i pins s σ H E I hf st hg
  subst hP hw hK
  obtain ⟨xs, hq, hx⟩ := hg
  obtain ⟨af, rv, p, hz⟩ := I.list hq
  obtain ⟨f0, f1, f2, f3, f4, f5⟩ := hf it (by simp)
  have hl := rv.length
  exact wpAny_pyNext_list_end (I.ok.hd hc) st p.isList (by simp; omega) fun h' eb => ⟨rfl, I.turned (t' := s.toks) (fun b o hb e => eb b o hb e) f0 f1 f3 f4 f5⟩
 self := fun _ _ _ _ _ st h => wpAny_pyIter_listiter st h
theorem JB {P : Program} {w : World} {K : PySem.W.Frag} {tg : Expr} (a it : Addr) : Turn P w K tg (oT K a) [it] it (fun i h => h.IsTupleIter it a i) where
 mem := by simp
 obj := fun i h st b hb => by
  have e : b = it := by simpa using hb
  subst e
  obtain ⟨o, e, c, d⟩ := st
  exact ⟨o, e, fun v z => by rw [d] at z; cases z⟩
 keep := fun i h h' st k => st.at fun o e => k it (by simp) o e
 item := by
  intro X hP hw hK hc i pins s σ H E I hf st hg
  subst hP hw hK
  obtain ⟨xs, x, hq, hx⟩ := hg
  obtain ⟨af, rv, p, hz⟩ := I.tuple hq
  obtain ⟨u, hu, ru⟩ := rv.get hx
  obtain ⟨f0, f1, f2, f3, f4, f5⟩ := hf it (by simp)
  refine wpAny_pyNext_tuple_item st (show s.heap.IsTuple a af.toArray from p) (x := u) (by simpa using hu) fun h' di sb => ?_
  have I1 : Inv X pins σ H { s with heap := h' } := I.turned (t' := s.toks) (fun b o hb e => (sb.2 b hb).trans e) f0 f1 f3 f4 f5
  obtain ⟨o, e, c, d⟩ := id di
  exact ⟨u, rfl, oR (s := { s with heap := h' }) e c d (by decide) ⟨x, H, I1, ru, ⟨rfl, fun ys hy => by rw [I.Jz hy hq]; exact hx⟩, di, fun b hb => (hf b hb).1⟩⟩
 done := by
  intro X hP hw hK hc i pins s σ H E I hf st hg
  subst hP hw hK
  obtain ⟨xs, hq, hx⟩ := hg
  obtain ⟨af, rv, p, hz⟩ := I.tuple hq
  obtain ⟨f0, f1, f2, f3, f4, f5⟩ := hf it (by simp)
  have hl := rv.length
  exact wpAny_pyNext_tuple_end (I.ok.hd hc) st (show s.heap.IsTuple a af.toArray from p) (by simp; omega) fun h' eb => ⟨rfl, I.turned (t' := s.toks) (fun b o hb e => eb b o hb e) f0 f1 f3 f4 f5⟩
 self := fun _ _ _ _ _ st h => wpAny_pyIter_tupleiter st h
theorem JC {P : Program} {w : World} {K : PySem.W.Frag} {tg : Expr} (it : Addr) (lo : Int) (n : Nat) : Turn P w K tg (e9 lo n) [it] it (fun i h => IsRangeIter h it (lo + (i : Nat) * 1) ((n : Int) - (i : Nat)) 1) where
 mem := by simp
 obj := fun i h st b hb => by
  have e : b = it := by simpa using hb
  subst e
  exact ⟨_, st, fun v z => by
   have z' : Data.fields _ = Data.cell v := z
   cases z'⟩
 keep := fun i h h' st k => k it (by simp) _ st
 item := by
  intro X hP hw hK hc i pins s σ H E I hf st hg
  subst hP hw hK
  obtain ⟨f0, f1, f2, f3, f4, f5⟩ := hf it (by simp)
  have W := Walks.range (prog := X.prog) (w := X.w) (I.ok.hd hc) it lo 1 n
  refine W.item i s _ _ hg st fun v h' tk hv di kk => ?_
  obtain ⟨t, rfl⟩ := hv
  have I1 : Inv X pins σ H { s with heap := h', toks := tk } := I.turned (fun b o hb e => kk b o (by simpa using hb) e) f0 f1 f3 f4 f5
  refine ⟨_, rfl, oR (s := { s with heap := h', toks := tk }) (n := "range_iterator") di rfl rfl (by decide) ⟨.int (lo + i), H, I1, ⟨t, ?_⟩, ⟨rfl, rfl⟩, di, fun b hb => (hf b hb).1⟩⟩
  rw [Int.mul_one]
 done := by
  intro X hP hw hK hc i pins s σ H E I hf st hg
  subst hP hw hK
  obtain ⟨f0, f1, f2, f3, f4, f5⟩ := hf it (by simp)
  exact wpAny_pyNext_range_end (I.ok.hd hc) st (by have : n <= i := hg; omega) fun h' eb => ⟨rfl, I.turned (t' := s.toks) (fun b o hb e => eb b o hb e) f0 f1 f3 f4 f5⟩
 self := fun _ _ _ _ _ st h => wpAny_pyIter_rangeiter st h
end L2
namespace L2
open PySem PySem.Spec PyProof.Rows
section
variable {X : Cx} {tg : Expr}
noncomputable def lg (K : PySem.W.Frag) (tl : TE) : TI := fun σ H R => tl σ H fun x H1 => ∃ a, x = .ref a /\ (∃ xs, ai K H1 a xs) /\ R (eZ K a) H1
noncomputable def lh (K : PySem.W.Frag) (tl : TE) : TI := fun σ H R => tl σ H fun x H1 => ∃ a, x = .ref a /\ (∃ xs, ar K H1 a xs) /\ R (oT K a) H1
theorem fb {l : Expr} {tl : TE} (hl : PE X l tl) : PI X tg l (lg X.K tl) := by
 intro pins s σ H R I h
 refine aq (hl pins s σ H _ I h) fun v s1 ⟨x, H1, I1, r1, q1⟩ => ?_
 obtain ⟨a, e, ⟨xs, hq⟩, q⟩ := q1
 subst e
 cases r1
 obtain ⟨af, rv, p, hz⟩ := I1.list hq
 refine wpAny_pyIter_list p.isList ?_
 refine ⟨s1.heap.objs.size, [s1.heap.objs.size], _, _, H1, rfl, I1.kept (t' := s1.toks) fun b o e => Heap.get?_push_of_some _ e, JA a _, ⟨_, Heap.get?_push_size _ rfl, rfl, rfl⟩, fun b hb => ?_, q⟩
 have e : b = s1.heap.objs.size := by simpa using hb
 subst e
 exact I1.gp (Nat.le_refl _) (I1.ag.fresh (Nat.le_refl _))
theorem Dw {l : Expr} {tl : TE} (hl : PE X l tl) : PI X tg l (lh X.K tl) := by
 intro pins s σ H R I h
 refine aq (hl pins s σ H _ I h) fun v s1 ⟨x, H1, I1, r1, q1⟩ => ?_
 obtain ⟨a, e, ⟨xs, hq⟩, q⟩ := q1
 subst e
 cases r1
 obtain ⟨af, rv, p, hz⟩ := I1.tuple hq
 refine wpAny_pyIter_tuple (show s1.heap.IsTuple a af.toArray from p) ?_
 refine ⟨s1.heap.objs.size, [s1.heap.objs.size], _, _, H1, rfl, I1.kept (t' := s1.toks) fun b o e => Heap.get?_push_of_some _ e, JB a _, ⟨_, Heap.get?_push_size _ rfl, rfl, rfl⟩, fun b hb => ?_, q⟩
 have e : b = s1.heap.objs.size := by simpa using hb
 subst e
 exact I1.gp (Nat.le_refl _) (I1.ag.fresh (Nat.le_refl _))
theorem JD {pins : List (Addr × Obj)} {σ : St} {H : Hp} {s : Shared} {R : It -> Hp -> Prop} {E : Value -> Shared -> Prop} {lo hi : Int} {t u v : Tok} {tk : Nat} (I : Inv X pins σ H s) (h1 : -(2 ^ 62) <= lo) (h2 : lo < 2 ^ 62) (h3 : -(2 ^ 62) <= hi) (h4 : hi < 2 ^ 62)
 (q : R (e9 lo (hi - lo).toNat) H) : wpAny (model X.prog X.w) X.A (pyIter (.ref s.heap.objs.size)) (Dv X pins σ tg R) E { s with heap := s.heap.push { cls := .type "range", data := .fields #[.int lo t, .int hi u, .int 1 v] }, toks := tk } := by
 refine wpAny_pyIter_range (IsRange.new ..) (small_one h1 h2 h3 h4) ?_
 have I1 : Inv X pins σ H { s with heap := s.heap.push { cls := .type "range", data := .fields #[.int lo t, .int hi u, .int 1 v] }, toks := tk } := I.kept fun b o e => Heap.get?_push_of_some _ e
 refine ⟨(s.heap.push { cls := .type "range", data := .fields #[.int lo t, .int hi u, .int 1 v] }).objs.size, [(s.heap.push { cls := .type "range", data := .fields #[.int lo t, .int hi u, .int 1 v] }).objs.size], _, _, H, rfl,
  I1.kept (t' := tk) fun b o e => Heap.get?_push_of_some _ e, JC _ lo (hi - lo).toNat, ?_, fun b hb => ?_, q⟩
 ·have e1 : lo + ((0 : Nat) : Int) * 1 = lo := by simp
  have e2 : (((hi - lo).toNat : Nat) : Int) - ((0 : Nat) : Int) = Builtin.Range.rangeSize lo hi 1 := by rw [rangeSize_one]; split <;> omega
  show IsRangeIter _ _ (lo + ((0 : Nat) : Int) * 1) ((((hi - lo).toNat : Nat) : Int) - ((0 : Nat) : Int)) 1
  rw [e1, e2]
  exact Heap.get?_push_size _ rfl
 ·have e : b = (s.heap.push { cls := .type "range", data := .fields #[.int lo t, .int hi u, .int 1 v] }).objs.size := by simpa using hb
  subst e
  exact I1.gp (Nat.le_refl _) (I1.ag.fresh (Nat.le_refl _))
noncomputable def lj (ta : TA) : TI := fun σ H R => ta σ H fun vs H1 => ∃ j : Int, vs = [.int j] /\ -(2 ^ 62) <= j /\ j < 2 ^ 62 /\ R (e9 0 j.toNat) H1
noncomputable def oU (ta : TA) : TI := fun σ H R => ta σ H fun vs H1 => ∃ i j : Int, vs = [.int i, .int j] /\ (-(2 ^ 62) <= i /\ i < 2 ^ 62 /\ -(2 ^ 62) <= j /\ j < 2 ^ 62) /\ R (e9 i (j - i).toNat) H1
theorem jD {a : Expr} {ta : TA} {p pos : Pos} (hg : Gl X "range") (hm : X.mg "range" = none) (ha : PA X [a] ta) (hs : starEach [a] X.env = [(false, eval a X.env)] := by rfl) : PI X tg (.Call (.Name "range" p) [a] [] pos) (lj ta) := by
 intro pins s σ H R I h
 refine Call_ (fG I hg hm boot_range (PyProof.Rows.callWith_type1 (aq (ha pos pins s σ H _ I h) fun us s1 ⟨vs, H1, I1, r1, q1⟩ => ?_) hs rfl))
 obtain ⟨j, e, q1, q2, q⟩ := q1
 subst e
 cases r1 with
 | cons r rr =>
  cases rr
  obtain ⟨t, rfl⟩ := r
  exact call_range_1 (JD I1 (by omega) (by omega) q1 q2 (by simpa using q))
noncomputable def fJ (wi : TI) (g : TG) (tb : TS) : TS := fun D σ H => wi σ H fun J H1 => ∃ W : Nat -> Nat -> St -> Hp -> Prop, (∃ m, W 0 m σ H1) /\ ∀ i m σ H, W i m σ H ->
 (J.stop i H /\ D.nx σ H) ∨ (J.go i H /\ ∃ N : St -> Hp -> Prop, (∀ σ' H', N σ' H' -> ∃ m', m' < m /\ W (i + 1) m' σ' H') /\ ∀ x H', J.yld i H x H' -> g x σ H' fun σ2 H2 => tb { D with nx := N, ct := N, bk := D.nx } σ2 H2)
noncomputable def lq (fp : List Addr) (h : Heap) : List (Addr × Obj) := fp.filterMap fun b => (h.get? b).map fun o => (b, o)
theorem lr {fp : List Addr} {h : Heap} {b : Addr} {o : Obj} (hb : b ∈ fp) (e : h.get? b = some o) : (b, o) ∈ lq fp h := List.mem_filterMap.mpr ⟨b, hb, by rw [e]; rfl⟩
theorem JE {fp : List Addr} {h : Heap} {p : Addr × Obj} (hp : p ∈ lq fp h) : p.1 ∈ fp /\ h.get? p.1 = some p.2 := by
 obtain ⟨b, hb, e⟩ := List.mem_filterMap.mp hp
 cases q : h.get? b with
 | none => rw [q] at e; cases e
 | some o =>
  rw [q] at e
  have e' : (b, o) = p := Option.some.inj e
  subst e'
  exact ⟨hb, q⟩
theorem Inv.pinned {pins : List (Addr × Obj)} {σ : St} {H : Hp} {s : Shared} {fp : List Addr} (I : Inv X pins σ H s) (hf : ∀ b ∈ fp, cI X pins H b) (ho : ∀ b ∈ fp, ∃ o, s.heap.get? b = some o /\ ∀ v, o.data ≠ .cell v) : Inv X (pins ++ lq fp s.heap) σ H s :=
 I.hW fun p hp => (List.mem_append.mp hp).elim (fun z => I.pin p (List.mem_append_right _ z)) fun z => by
  obtain ⟨hb, e⟩ := JE z
  obtain ⟨f0, f1, f2, _⟩ := hf p.1 hb
  obtain ⟨o, e', d⟩ := ho p.1 hb
  rw [e] at e'; cases e'
  exact ⟨e, f0, f1, f2, d⟩
theorem Inv.oV {pins pl : List (Addr × Obj)} {σ : St} {H : Hp} {s : Shared} (I : Inv X (pins ++ pl) σ H s) : Inv X pins σ H s := I.hW fun p hp => I.pin p (List.mem_append_right _ (List.mem_append_left _ hp))
theorem c9 {iter : Expr} {body : List Stmt} {wi : TI} {g : TG} {tb : TS} {pos : Pos} (hp : PassesOwn (model X.prog X.w) X.A X.env X.xe) (hc : X.calm = true) (hi : PI X tg iter wi) (hg : PG X tg g) (hb : bo X body tb)
 (hs : ∀ x, foldedSetIterable iter X.env x = pure x := by intro _; rfl) : PS X (.For tg iter body [] pos) (fJ wi g tb) := by
 intro pins s σ H D I h
 refine wpAny_For (aq (hi pins s σ H _ I h) fun v s1 h1 => aq h1 fun lb s2 h2 => ?_) hs
 obtain ⟨it, fp, tn, J, H2, e, I2, T, cJ, f2, W, ⟨m0, w0⟩, turn⟩ := h2
 subst e
 have xI : ∀ {H' : Hp}, (∀ b ∈ fp, H' b = none) -> ∀ b ∈ fp, cI X pins H' b := fun hn b hb => ⟨hn b hb, (f2 b hb).2⟩
 refine codeAny_forLoop_any (fun n s' => ∃ i σ' H', Inv X pins σ' H' s' /\ tn i s'.heap /\ (∀ b ∈ fp, H' b = none) /\ W i n σ' H') ?_ m0 ⟨0, σ, H2, I2, cJ, fun b hb => (f2 b hb).1, w0⟩
 rintro n s3 ⟨i, σ3, H3, I3, ia, ib, w3⟩
 rcases turn i n σ3 H3 w3 with ⟨stop, qn⟩ | ⟨go, N, hN, step⟩
 ·refine wpAny_passesOwn hp (aq (T.done X rfl rfl rfl hc i pins s3 σ3 H3 X.xe I3 (xI ib) ia stop) fun r s4 ⟨hr, I4⟩ => ?_)
  subst hr
  exact wpAny_execs_nil ⟨σ3, H3, I4, qn⟩
 ·refine wpAny_passesOwn hp (aq (T.item X rfl rfl rfl hc i pins s3 σ3 H3 X.xe I3 (xI ib) ia go) fun r s4 ⟨u, hr, h4⟩ => ?_)
  subst hr
  refine wpAny_passesOwn hp (aq h4 fun _ s5 ⟨x, H5, I5, r5, y5, fc, oW⟩ => ?_)
  have oX := I5.pinned (xI oW) (T.obj _ _ fc)
  refine wpAny_passesOwn hp (aq (hg _ s5 σ3 H5 x u _ oX r5 (step x H5 y5)) fun _ s6 ⟨σ6, H6, I6, q6⟩ => ?_)
  refine wpAny_passesOwn hp (aq (hb _ s6 σ6 H6 _ I6 q6) fun f s7 q7 => ?_)
  have again : ∀ {σ7 : St} {H7 : Hp}, Inv X (pins ++ lq fp s5.heap) σ7 H7 s7 -> N σ7 H7 -> ∃ m, m < n /\ ∃ i σ' H', Inv X pins σ' H' s7 /\ tn i s7.heap /\ (∀ b ∈ fp, H' b = none) /\ W i m σ' H' := fun {σ7 H7} I7 n7 => by
   obtain ⟨m', hm, w7⟩ := hN σ7 H7 n7
   refine ⟨m', hm, i + 1, σ7, H7, I7.oV, T.keep _ _ _ fc fun b hb o e => (I7.pin (b, o) (List.mem_append_right _ (List.mem_append_right _ (lr hb e)))).1, fun b hb => ?_, w7⟩
   obtain ⟨o, e, d⟩ := T.obj _ _ fc b hb
   exact (I7.pin (b, o) (List.mem_append_right _ (List.mem_append_right _ (lr hb e)))).2.1
  cases f with
  | next => obtain ⟨σ7, H7, I7, n7⟩ := q7; exact again I7 n7
  | cont => obtain ⟨σ7, H7, I7, n7⟩ := q7; exact again I7 n7
  | brk => obtain ⟨σ7, H7, I7, q7⟩ := q7; exact ⟨σ7, H7, I7.oV, q7⟩
  | ret v => obtain ⟨x7, σ7, H7, I7, r7, q7⟩ := q7; exact ⟨x7, σ7, H7, I7.oV, r7, q7⟩
end
theorem JF {K : PySem.W.Frag} {a : Addr} {xs : List V} {g : TG} {tb : TS} {D : Ends} {σ : St} {H : Hp} (Pv : Nat -> St -> Hp -> Prop) (h0 : Pv 0 σ H) (hl : ∀ i σ H, i <= xs.length -> Pv i σ H -> ai K H a xs)
 (hs : ∀ i x σ H, xs[i]? = some x -> Pv i σ H -> g x σ H fun σ2 H2 => tb { D with nx := Pv (i + 1), ct := Pv (i + 1), bk := D.nx } σ2 H2) (hd : ∀ σ H, Pv xs.length σ H -> D.nx σ H) :
 ∃ W : Nat -> Nat -> St -> Hp -> Prop, (∃ m, W 0 m σ H) /\ ∀ i m σ H, W i m σ H ->
  ((eZ K a).stop i H /\ D.nx σ H) ∨ ((eZ K a).go i H /\ ∃ N : St -> Hp -> Prop, (∀ σ' H', N σ' H' -> ∃ m', m' < m /\ W (i + 1) m' σ' H') /\ ∀ x H', (eZ K a).yld i H x H' -> g x σ H' fun σ2 H2 => tb { D with nx := N, ct := N, bk := D.nx } σ2 H2) := by
 refine ⟨fun i m σ H => m = xs.length - i /\ i <= xs.length /\ Pv i σ H, ⟨xs.length, by simp, Nat.zero_le _, h0⟩, ?_⟩
 rintro i m σ H ⟨rfl, hi, p⟩
 have q := hl i σ H hi p
 by_cases aR : i < xs.length
 ·refine .inr ⟨⟨xs, xs[i], q, by simp [aR]⟩, Pv (i + 1), fun σ' H' p' => ⟨xs.length - (i + 1), by omega, rfl, aR, p'⟩, fun x H' y => ?_⟩
  obtain ⟨e, y⟩ := y
  subst e
  exact hs i x σ _ (y xs q) p
 ·have e : i = xs.length := by omega
  subst e
  exact .inl ⟨⟨xs, q, Nat.le_refl _⟩, hd σ H p⟩
theorem JG {lo : Int} {n : Nat} {g : TG} {tb : TS} {D : Ends} {σ : St} {H : Hp} (Pv : Nat -> St -> Hp -> Prop) (h0 : Pv 0 σ H)
 (hs : ∀ i σ H, i < n -> Pv i σ H -> g (.int (lo + i)) σ H fun σ2 H2 => tb { D with nx := Pv (i + 1), ct := Pv (i + 1), bk := D.nx } σ2 H2) (hd : ∀ σ H, Pv n σ H -> D.nx σ H) :
 ∃ W : Nat -> Nat -> St -> Hp -> Prop, (∃ m, W 0 m σ H) /\ ∀ i m σ H, W i m σ H ->
  ((e9 lo n).stop i H /\ D.nx σ H) ∨ ((e9 lo n).go i H /\ ∃ N : St -> Hp -> Prop, (∀ σ' H', N σ' H' -> ∃ m', m' < m /\ W (i + 1) m' σ' H') /\ ∀ x H', (e9 lo n).yld i H x H' -> g x σ H' fun σ2 H2 => tb { D with nx := N, ct := N, bk := D.nx } σ2 H2) := by
 refine ⟨fun i m σ H => m = n - i /\ i <= n /\ Pv i σ H, ⟨n, by simp, Nat.zero_le _, h0⟩, ?_⟩
 rintro i m σ H ⟨rfl, hi, p⟩
 by_cases aR : i < n
 ·refine .inr ⟨aR, Pv (i + 1), fun σ' H' p' => ⟨n - (i + 1), by omega, rfl, aR, p'⟩, fun x H' y => ?_⟩
  obtain ⟨e, y⟩ := y
  subst e y
  exact hs i σ _ aR p
 ·have e : i = n := by omega
  subst e
  exact .inl ⟨Nat.le_refl _, hd σ H p⟩
end L2
namespace L2
open PySem PySem.Spec PyProof.Rows
noncomputable abbrev R2 := V -> V -> Hp -> VK -> Prop
noncomputable def bW (X : Cx) (f : Value -> Value -> Sem Value) (r : R2) : Prop :=
 ∀ (pins : List (Addr × Obj)) (s : Shared) (σ : St) (H : Hp) (x y : V) (v u : Value) (Q : VK), Inv X pins σ H s -> RelV x v -> RelV y u -> r x y H Q ->
  wpAny (model X.prog X.w) X.A (f v u) (EP X pins σ Q) X.xe s
noncomputable def xJ (X : Cx) (f : Value -> Sem Value) (r : V -> Hp -> VK -> Prop) : Prop :=
 ∀ (pins : List (Addr × Obj)) (s : Shared) (σ : St) (H : Hp) (x : V) (v : Value) (Q : VK), Inv X pins σ H s -> RelV x v -> r x H Q ->
  wpAny (model X.prog X.w) X.A (f v) (EP X pins σ Q) X.xe s
noncomputable def eg (X : Cx) (f : Value) (r : List V -> Hp -> VK -> Prop) : Prop :=
 ∀ (pins : List (Addr × Obj)) (s : Shared) (σ : St) (H : Hp) (xs : List V) (us : List Value) (Q : VK), Inv X pins σ H s -> Vals xs us -> r xs H Q ->
  wpAny (model X.prog X.w) X.A (call f us) (EP X pins σ Q) X.xe s
noncomputable def ic (r : R2) (ta tb : TE) : TE := fun σ H Q => ta σ H fun x H1 => tb σ H1 fun y H2 => r x y H2 Q
noncomputable def oY (r : V -> Hp -> VK -> Prop) (ta : TE) : TE := fun σ H Q => ta σ H fun x H1 => r x H1 Q
noncomputable def rI (C : Int -> Int -> Prop) (g : Int -> Int -> V) : R2 := fun x y H Q => ∃ i j, x = .int i /\ y = .int j /\ C i j /\ Q (g i j) H
noncomputable def fe (g : Int -> Int -> V) : R2 := fun x y H Q => ∃ i j, x = .int i /\ y = .int j /\ Q (g i j) H
noncomputable def rU (g : Int -> V) : V -> Hp -> VK -> Prop := fun x H Q => ∃ i, x = .int i /\ Q (g i) H
section
variable {X : Cx} {a b c : Expr} {ta tb tc : TE} {pos : Pos}
theorem xK (ha : PE X a ta) (hb : PE X b tb) {pins : List (Addr × Obj)} {s : Shared} {σ : St} {H : Hp} {R : V -> V -> Hp -> Prop} (I : Inv X pins σ H s)
 (h : ta σ H fun x H1 => tb σ H1 fun y H2 => R x y H2) {Q : Value -> Shared -> Prop} {f : Value -> Value -> Sem Value}
 (hf : ∀ v u s2 x y H2, Inv X pins σ H2 s2 -> RelV x v -> RelV y u -> R x y H2 -> wpAny (model X.prog X.w) X.A (f v u) Q X.xe s2) :
 wpAny (model X.prog X.w) X.A (eval a X.env) (fun v s₁ => wpAny (model X.prog X.w) X.A (eval b X.env) (fun u s₂ => wpAny (model X.prog X.w) X.A (f v u) Q X.xe s₂) X.xe s₁) X.xe s := by
 refine aq (ha pins s σ H _ I h) fun v s1 ⟨x, H1, I1, r1, q1⟩ => ?_
 refine aq (hb pins s1 σ H1 _ I1 q1) fun u s2 ⟨y, H2, I2, r2, q2⟩ => ?_
 exact hf v u s2 x y H2 I2 r1 r2 q2
theorem aA {op : Operator} {r : R2} (ho : bW X (binaryOp op) r) (ha : PE X a ta) (hb : PE X b tb) : PE X (.BinOp a op b pos) (ic r ta tb) := by
 intro pins s σ H Q I h
 exact wpAny_BinOp (xK ha hb I h fun v u s2 x y H2 I2 rx ry q => ho pins s2 σ H2 x y v u Q I2 rx ry q)
theorem rY {op : UnaryOp} {r : V -> Hp -> VK -> Prop} (ho : xJ X (unaryOp op) r) (ha : PE X a ta) : PE X (.UnaryOp op a pos) (oY r ta) := by
 intro pins s σ H Q I h
 exact UnaryOp_ (aq (ha pins s σ H _ I h) fun v s1 ⟨x, H1, I1, r1, q1⟩ => ho pins s1 σ H1 x v Q I1 r1 q1)
theorem rZ {f : Value -> Value -> Sem Value} {C : Int -> Int -> Prop} {g : Int -> Int -> Int}
 (rule : ∀ (i j : Int) (t u : Tok) (s : Shared) (Q : Value -> Shared -> Prop) (E : Value -> Shared -> Prop), C i j -> Q (.int (g i j) s.toks) { s with toks := s.toks + 1 } -> wpAny (model X.prog X.w) X.A (f (.int i t) (.int j u)) Q E s) :
 bW X f (rI C fun i j => .int (g i j)) := by
 intro pins s σ H x y v u Q I rx ry h
 obtain ⟨i, j, rfl, rfl, hc, q⟩ := h
 obtain ⟨t, rfl⟩ := rx
 obtain ⟨t', rfl⟩ := ry
 exact rule i j t t' s _ _ hc ⟨.int (g i j), H, I.tok _, ⟨_, rfl⟩, q⟩
theorem Dx {f : Value -> Value -> Sem Value} {g : Int -> Int -> Int}
 (rule : ∀ (i j : Int) (t u : Tok) (s : Shared) (Q : Value -> Shared -> Prop) (E : Value -> Shared -> Prop), Q (.int (g i j) s.toks) { s with toks := s.toks + 1 } -> wpAny (model X.prog X.w) X.A (f (.int i t) (.int j u)) Q E s) :
 bW X f (fe fun i j => .int (g i j)) := by
 intro pins s σ H x y v u Q I rx ry h
 obtain ⟨i, j, rfl, rfl, q⟩ := h
 obtain ⟨t, rfl⟩ := rx
 obtain ⟨t', rfl⟩ := ry
 exact rule i j t t' s _ _ ⟨.int (g i j), H, I.tok _, ⟨_, rfl⟩, q⟩
theorem xM {f : Value -> Value -> Sem Value} {g : Int -> Int -> Bool}
 (rule : ∀ (i j : Int) (t u : Tok) (s : Shared) (Q : Value -> Shared -> Prop) (E : Value -> Shared -> Prop), Q (.bool (g i j)) s -> wpAny (model X.prog X.w) X.A (f (.int i t) (.int j u)) Q E s) :
 bW X f (fe fun i j => .bl (g i j)) := by
 intro pins s σ H x y v u Q I rx ry h
 obtain ⟨i, j, rfl, rfl, q⟩ := h
 obtain ⟨t, rfl⟩ := rx
 obtain ⟨t', rfl⟩ := ry
 exact rule i j t t' s _ _ ⟨.bl (g i j), H, I, rfl, q⟩
noncomputable def JH (i j : Int) : Prop := 0 <= j /\ j <= 1000000 /\ i.natAbs < 2 ^ 64
noncomputable def Dy (i j : Int) : Prop := (-(2 ^ 64) < i /\ i < 2 ^ 64) ∨ (-(2 ^ 64) < j /\ j < 2 ^ 64)
theorem Dy.ok {i j : Int} (h : Dy i j) : IntMulOk i j := by
 rcases h with ⟨h1, h2⟩ | ⟨h1, h2⟩
 ·exact .of_left (intBits_le_64 h1 h2)
 ·exact .of_right (intBits_le_64 h1 h2)
theorem a8 : bW X (binaryOp .Add) (fe fun i j => .int (i + j)) := Dx fun _ _ _ _ _ _ _ q => add_int q
theorem ff : bW X (binaryOp .Sub) (fe fun i j => .int (i - j)) := Dx fun _ _ _ _ _ _ _ q => sub_int q
theorem gu : bW X (binaryOp .Mod) (rI (fun _ j => 0 < j) fun i j => .int (i % j)) := rZ fun i j _ _ _ _ _ hc q => by
 have h1 : (0 : Int) < j := hc
 exact mod_int' (by omega) (by rw [Int.fmod_eq_emod_of_nonneg i (by omega)]; exact q)
theorem oZ : bW X (binaryOp .Pow) (rI JH fun i j => .int (i ^ j.toNat)) := rZ fun _ _ _ _ _ _ _ hc q => pow_int_small hc.1 hc.2.1 hc.2.2 q
theorem JI {f : Value -> Sem Value} {g : Int -> Int}
 (rule : ∀ (i : Int) (t : Tok) (s : Shared) (Q : Value -> Shared -> Prop) (E : Value -> Shared -> Prop), Q (.int (g i) s.toks) { s with toks := s.toks + 1 } -> wpAny (model X.prog X.w) X.A (f (.int i t)) Q E s) :
 xJ X f (rU fun i => .int (g i)) := by
 intro pins s σ H x v Q I rx h
 obtain ⟨i, rfl, q⟩ := h
 obtain ⟨t, rfl⟩ := rx
 exact rule i t s _ _ ⟨.int (g i), H, I.tok _, ⟨_, rfl⟩, q⟩
theorem r9 : xJ X (unaryOp .USub) (rU fun i => .int (-i)) := JI fun _ _ _ _ _ q => neg_int q
end
noncomputable def jE : V -> V -> Bool
 | .non, .non => true | .non, .int _ => true | .int _, .non => true | .non, .bl _ => true | .bl _, .non => true | .non, .str _ => true | .str _, .non => true
 | .int _, .int _ => true | .bl _, .bl _ => true | .str _, .str _ => true | .byt _, .byt _ => true
 | .int _, .str _ => true | .str _, .int _ => true | .bl _, .str _ => true | .str _, .bl _ => true
 | _, _ => false
noncomputable def o4 : R2 := fun x y H Q => jE x y = true /\ Q (.bl (decide (x = y))) H
noncomputable def se : R2 := fun x y H Q => jE x y = true /\ Q (.bl (!decide (x = y))) H
theorem JJ {i j : Int} : decide (V.int i = V.int j) = (i == j) := by
 rw [Bool.eq_iff_iff]
 simp
theorem JK {i j : Bool} : decide (V.bl i = V.bl j) = (i == j) := by
 rw [Bool.eq_iff_iff]
 simp
theorem JL {i j : Str} : decide (V.str i = V.str j) = (i == j) := by
 rw [Bool.eq_iff_iff]
 simp
theorem JM {i j : Array UInt8} : decide (V.byt i = V.byt j) = (i.toList == j.toList) := by
 rw [Bool.eq_iff_iff]
 cases i
 cases j
 simp
section
variable {X : Cx} {a b c : Expr} {ta tb tc : TE} {pos : Pos}
theorem da {pins : List (Addr × Obj)} {σ : St} {H : Hp} {s : Shared} {Q : VK} {k k' : Bool} (I : Inv X pins σ H s) (q : Q (.bl k) H) (e : k = k') : EP X pins σ Q (.bool k') s := by
 subst e
 exact ⟨.bl k, H, I, rfl, q⟩
theorem cT : bW X (compareOp .Eq) o4 := by
 intro pins s σ H x y v u Q I rx ry h
 obtain ⟨hs, q⟩ := h
 cases x with
 | non =>
  cases rx
  cases y with
  | non => cases ry; exact PySem.EqNone.eq_none_none (da I q (by simp))
  | bl j => cases ry; exact PySem.EqNone.eq_none_bool (da I q (by simp))
  | int j => obtain ⟨t', rfl⟩ := ry; exact PySem.EqNone.eq_none_int (da I q (by simp))
  | str j => obtain ⟨t', rfl⟩ := ry; exact PySem.EqNone.eq_none_str (da I q (by simp))
  | _ => exact absurd (show false = true from hs) Bool.false_ne_true
 | bl i =>
  cases rx
  cases y with
  | non => cases ry; exact PySem.EqNone.eq_bool_none (da I q (by simp))
  | bl j => cases ry; exact eq_bool (da I q JK)
  | str j => obtain ⟨t', rfl⟩ := ry; exact PySem.EqMixed.eq_bool_str (da I q (by simp))
  | _ => exact absurd (show false = true from hs) Bool.false_ne_true
 | int i =>
  obtain ⟨t, rfl⟩ := rx
  cases y with
  | non => cases ry; exact PySem.EqNone.eq_int_none (da I q (by simp))
  | int j => obtain ⟨t', rfl⟩ := ry; exact eq_int (da I q JJ)
  | str j => obtain ⟨t', rfl⟩ := ry; exact PySem.EqMixed.eq_int_str (da I q (by simp))
  | _ => exact absurd (show false = true from hs) Bool.false_ne_true
 | str i =>
  obtain ⟨t, rfl⟩ := rx
  cases y with
  | non => cases ry; exact PySem.EqNone.eq_str_none (da I q (by simp))
  | bl j => cases ry; exact PySem.EqMixed.eq_str_bool (da I q (by simp))
  | int j => obtain ⟨t', rfl⟩ := ry; exact PySem.EqMixed.eq_str_int (da I q (by simp))
  | str j => obtain ⟨t', rfl⟩ := ry; exact eq_str (da I q JL)
  | _ => exact absurd (show false = true from hs) Bool.false_ne_true
 | byt i =>
  obtain ⟨t, rfl⟩ := rx
  cases y with
  | byt j => obtain ⟨t', rfl⟩ := ry; exact PySem.W.eq_bytes (da I q JM)
  | _ => exact absurd (show false = true from hs) Bool.false_ne_true
 | _ => cases y <;> exact absurd (show false = true from hs) Bool.false_ne_true
theorem lx : bW X (compareOp .Lt) (fe fun i j => .bl (decide (i < j))) := xM fun _ _ _ _ _ _ _ q => lt_int q
theorem ie : bW X (compareOp .LtE) (fe fun i j => .bl (decide (i <= j))) := xM fun _ _ _ _ _ _ _ q => le_int q
theorem ig : bW X (compareOp .Gt) (fe fun i j => .bl (decide (j < i))) := xM fun _ _ _ _ _ _ _ q => gt_int q
theorem bp (b : Expr) {op : CmpOp} (h : op ≠ .In := by decide) (h2 : op ≠ .NotIn := by decide) : behindInMarks op b = false := by
 have e1 : (op == CmpOp.In) = false := by cases op <;> first | rfl | exact absurd rfl h
 have e2 : (op == CmpOp.NotIn) = false := by cases op <;> first | rfl | exact absurd rfl h2
 cases b <;> simp [behindInMarks, e1, e2]
theorem ly {op : CmpOp} {r : R2} (ho : bW X (compareOp op) r) (ha : PE X a ta) (hb : PE X b tb) (hm : behindInMarks op b = false) : PE X (.Compare a [op] [b] pos) (ic r ta tb) := by
 intro pins s σ H Q I h
 exact wpAny_Compare1 (xK ha hb I h fun v u s2 x y H2 I2 rx ry q => ho pins s2 σ H2 x y v u Q I2 rx ry q) hm
noncomputable def lz (t : TE) : TT := fun σ H Q => t σ H fun x H' => ∃ k, x = .bl k /\ Q k H'
theorem bN {op : CmpOp} {r : R2} (ho : bW X (compareOp op) r) (ha : PE X a ta) (hb : PE X b tb) (hm : behindInMarks op b = false) : PT X (.Compare a [op] [b] pos) (lz (ic r ta tb)) := by
 intro pins s σ H Q I h
 refine wpAny_isTrue_Compare1 (aq (ha pins s σ H _ I h) fun v s1 ⟨x, H1, I1, r1, q1⟩ => aq (hb pins s1 σ H1 _ I1 q1) fun u s2 ⟨y, H2, I2, r2, q2⟩ =>
  aq (ho pins s2 σ H2 x y v u _ I2 r1 r2 q2) fun c s3 ⟨z, H3, I3, r3, k, e, q3⟩ => ?_) hm
 subst e
 cases r3
 exact wpAny_truthy_bool ⟨H3, I3, q3⟩
noncomputable def lA (r r' : R2) (ta tb tc : TE) : TE := fun σ H Q => ta σ H fun x H1 => tb σ H1 fun y H2 => r x y H2 fun z H3 => ∃ k, z = .bl k /\
 (if k = true then tc σ H3 fun w' H4 => r' y w' H4 Q else Q (.bl false) H3)
theorem Dz {op jF : CmpOp} {r r' : R2} (ho : bW X (compareOp op) r) (ck : bW X (compareOp jF) r') (ha : PE X a ta) (hb : PE X b tb) (hc : PE X c tc)
 (hm : lastMarks [op, jF] [b, c] = false := by with_unfolding_all rfl) : PE X (.Compare a [op, jF] [b, c] pos) (lA r r' ta tb tc) := by
 intro pins s σ H Q I h
 refine Compare_chain (aq (ha pins s σ H _ I h) fun v s1 ⟨x, H1, I1, r1, q1⟩ => chain_link (aq (hb pins s1 σ H1 _ I1 q1) fun u s2 ⟨y, H2, I2, r2, q2⟩ =>
  aq (ho pins s2 σ H2 x y v u _ I2 r1 r2 q2) fun d s3 ⟨z, H3, I3, r3, k, e, q3⟩ => ?_)) hm
 subst e
 cases r3
 refine wpAny_truthy_bool ?_
 cases k with
 | false => exact ite_ff ⟨.bl false, H3, I3, rfl, q3⟩
 | true => exact ite_tt (chain_last (aq (hc pins s3 σ H3 _ I3 q3) fun w' s4 ⟨z', H4, I4, r4, q4⟩ => ck pins s4 σ H4 y z' u w' Q I4 r2 r4 q4))
theorem xN {op jF : CmpOp} {r r' : R2} (ho : bW X (compareOp op) r) (ck : bW X (compareOp jF) r') (ha : PE X a ta) (hb : PE X b tb) (hc : PE X c tc)
 (hm : lastMarks [op, jF] [b, c] = false := by with_unfolding_all rfl) : PT X (.Compare a [op, jF] [b, c] pos) (lz (lA r r' ta tb tc)) := by
 intro pins s σ H Q I h
 refine isTrue_chain (aq (ha pins s σ H _ I h) fun v s1 ⟨x, H1, I1, r1, q1⟩ => test_link (aq (hb pins s1 σ H1 _ I1 q1) fun u s2 ⟨y, H2, I2, r2, q2⟩ =>
  aq (ho pins s2 σ H2 x y v u _ I2 r1 r2 q2) fun d s3 ⟨z, H3, I3, r3, k, e, q3⟩ => ?_)) hm
 subst e
 cases r3
 refine wpAny_truthy_bool ?_
 cases k with
 | false =>
  obtain ⟨k', e', q'⟩ := q3
  cases e'
  exact ite_ff ⟨H3, I3, q'⟩
 | true =>
  refine ite_tt (test_last (aq (hc pins s3 σ H3 _ I3 q3) fun w' s4 ⟨z', H4, I4, r4, q4⟩ => aq (ck pins s4 σ H4 y z' u w' _ I4 r2 r4 q4) fun d' s5 ⟨z2, H5, I5, r5, k2, e2, q5⟩ => ?_))
  subst e2
  cases r5
  exact wpAny_truthy_bool ⟨H5, I5, q5⟩
theorem o5 : (sizeLine : Nat) < 2 ^ 63 := by rw [sizeLine_eq]; decide
theorem vals1 {x : V} {us : List Value} (r : Vals [x] us) : ∃ u, us = [u] /\ RelV x u := by
 cases r with
 | cons r1 r2 => cases r2; exact ⟨_, rfl, r1⟩
theorem vals2 {x y : V} {us : List Value} (r : Vals [x, y] us) : ∃ u w', us = [u, w'] /\ RelV x u /\ RelV y w' := by
 cases r with
 | cons r1 r2 =>
  cases r2 with
  | cons r3 r4 => cases r4; exact ⟨_, _, rfl, r1, r3⟩
theorem DA (hc : X.calm = true) : eg X (.builtin "max") (fun xs H Q => ∃ i j, xs = [.int i, .int j] /\ Q (.int (if j > i then j else i)) H) := by
 intro pins s σ H xs us Q I r h
 obtain ⟨i, j, rfl, q⟩ := h
 obtain ⟨u, w', rfl, ⟨t, rfl⟩, ⟨t', rfl⟩⟩ := vals2 r
 refine max_two_ints (I.ok.hd hc) fun h' tk k => ⟨_, H, I.kept k, ?_, q⟩
 by_cases hj : j > i
 ·rw [if_pos hj, if_pos hj]; exact ⟨_, rfl⟩
 ·rw [if_neg hj, if_neg hj]; exact ⟨_, rfl⟩
theorem o6 (hc : X.calm = true) : eg X (.builtin "min") (fun xs H Q => ∃ i j, xs = [.int i, .int j] /\ Q (.int (if j < i then j else i)) H) := by
 intro pins s σ H xs us Q I r h
 obtain ⟨i, j, rfl, q⟩ := h
 obtain ⟨u, w', rfl, ⟨t, rfl⟩, ⟨t', rfl⟩⟩ := vals2 r
 refine min_two_ints (I.ok.hd hc) fun h' tk k => ⟨_, H, I.kept k, ?_, q⟩
 by_cases hj : j < i
 ·rw [if_pos hj, if_pos hj]; exact ⟨_, rfl⟩
 ·rw [if_neg hj, if_neg hj]; exact ⟨_, rfl⟩
noncomputable def DB (K : PySem.W.Frag) (x : V) (H : Hp) (n : Nat) : Prop :=
 match x with
 | .str y => y.length <= sizeLine /\ n = y.length
 | .byt y => y.size <= sizeLine /\ n = y.size
 | .ref p => (∃ xs, ai K H p xs /\ n = xs.length) ∨ ∃ xs, ar K H p xs /\ n = xs.length
 | _ => False
theorem jG : eg X (.builtin "len") (fun xs H Q => ∃ x n, xs = [x] /\ DB X.K x H n /\ Q (.int n) H) := by
 intro pins s σ H xs us Q I r h
 obtain ⟨x, n, rfl, e, q⟩ := h
 obtain ⟨u, rfl, rx⟩ := vals1 r
 have hl := o5
 have hs : sizeLine = 16777216 := sizeLine_eq
 cases x with
 | str y =>
  obtain ⟨t, rfl⟩ := rx
  obtain ⟨hy, e'⟩ : y.length <= sizeLine /\ n = y.length := e
  subst e'
  exact len_str (by omega) ⟨.int _, H, I.tok _, ⟨_, rfl⟩, q⟩
 | byt y =>
  obtain ⟨t, rfl⟩ := rx
  obtain ⟨hy, e'⟩ : y.size <= sizeLine /\ n = y.size := e
  subst e'
  exact PySem.W.len_bytes (by omega) ⟨.int _, H, I.tok _, ⟨_, rfl⟩, q⟩
 | ref p =>
  cases rx
  have e' : (∃ xs, ai X.K H p xs /\ n = xs.length) ∨ ∃ xs, ar X.K H p xs /\ n = xs.length := e
  rcases e' with ⟨xs, hx, e'⟩ | ⟨xs, hx, e'⟩
  ·subst e'
   obtain ⟨af, r', pl, hz⟩ := I.list hx
   have hlen := r'.length
   exact Calls.call_len_list pl.isList (by simp only [List.size_toArray]; omega) ⟨.int xs.length, H, I.tok _, ⟨_, by simp only [List.size_toArray]; rw [hlen]⟩, q⟩
  ·subst e'
   obtain ⟨af, r', pl, hz⟩ := I.tuple hx
   have hlen := r'.length
   exact len_tuple pl (by simp only [List.size_toArray]; omega) ⟨.int xs.length, H, I.tok _, ⟨_, by simp only [List.size_toArray]; rw [hlen]⟩, q⟩
 | _ => exact (show False from e).elim
end
end L2
namespace L2
open PySem PySem.Spec PyProof.Rows
structure jH (h : Heap) (x dx C : Addr) (mA : Str -> Option Value) : Prop where
 obj : h.get? x = some (PySem.W.instObj C dx)
 ns : h.Ns1 dx mA
 ne : dx ≠ x
theorem JN {h : Heap} {dx : Addr} {mA : Str -> Option Value} (n : h.Ns1 dx mA) : ∃ od, h.get? dx = some od /\ ∀ name, PySem.W.lookIn name od = some (mA name) := by
 obtain ⟨o, es, ep, ho, hd, hk, _, hm⟩ := n
 refine ⟨o, ho, fun name => ?_⟩
 have e := hm name
 unfold nsFind findBy at e
 rw [<- Array.find?_toList] at e
 unfold PySem.W.lookIn
 rw [hd]
 dsimp only
 split
 ·rename_i y q
  rw [q] at e
  exact congrArg some e
 ·rename_i q
  rw [q] at e
  have a : es.toList.any (·.refKey) = false := by
   rw [List.any_eq_false]
   intro y hy
   obtain ⟨z, t, dG⟩ := hk y (Array.mem_toList_iff.mp hy)
   simp [DictEntry.refKey, dG]
  have a' : ¬ es.toList.any (·.refKey) = true := by rw [a]; exact Bool.false_ne_true
  rw [if_neg a']
  exact congrArg some e
theorem jH.look {h : Heap} {x dx C : Addr} {mA : Str -> Option Value} (I : jH h x dx C mA) : ∃ od, PySem.W.InstAt h x (PySem.W.instObj C dx) C (some od) /\ ∀ name, PySem.W.lookIn name od = some (mA name) :=
 let ⟨od, ho, hl⟩ := JN I.ns
 ⟨od, ⟨I.obj, rfl, rfl, ho⟩, hl⟩
section
variable {prog : Program} {w : World} {A : Around} {E : Value -> Shared -> Prop} {s : Shared} {K : PySem.W.Frag} {x dx C f : Addr} {mA : Str -> Option Value} {name : Str} {v : Value}
theorem get_map {expr : Bool} {Q : Value -> Shared -> Prop} (X : K.In s.heap) (I : jH s.heap x dx C mA) (hg : PySem.W.plainGet K C name = true) (hh : PySem.W.hasDictIn K C = true)
 (ha : PySem.W.findIn K (.ref C) name = some none) (hv : mA name = some v) (JO : PySem.W.handedIn v = true) (h : Q v { s with toks := s.toks + 1 }) :
 wpAny (model prog w) A (getAttr (.ref x) name expr) Q E s := by
 obtain ⟨od, J, hl⟩ := I.look
 exact PySem.W.get_value X J (PySem.W.plainGet_of hg).1 (PySem.W.findObj_own hh ha rfl (by rw [hl, hv])) JO h
theorem JP {pl : Sem Bool} {Q : Value × List Value -> Shared -> Prop} (X : K.In s.heap) (I : jH s.heap x dx C mA) (hg : PySem.W.plainGet K C name = true)
 (hf : PySem.W.findIn K (.ref C) name = some (some (.ref f))) (ht : PySem.W.isFn K (.ref f) = true) (hv : mA name = none) (h : Q (.ref f, [.ref x]) s) :
 wpAny (model prog w) A (getMethod (.ref x) name pl) Q E s := by
 obtain ⟨od, J, hl⟩ := I.look
 exact PySem.W.method_fn X J (PySem.W.plainGet_of hg).1 (PySem.W.plainGet_of hg).2 hf (beq_iff_eq.mp ht) (by show (PySem.W.lookIn name od).map (·.isSome) = some false; rw [hl, hv]; rfl) h
theorem JQ {ns : List Str} {Q : Unit -> Shared -> Prop} (X : K.In s.heap) (I : jH s.heap x dx C mA)
 (hs : PySem.W.findIn K (.ref C) "__setattr__" = some (some (.builtin "object.__setattr__"))) (hp : PySem.W.plainOver K C = true) (ht : PySem.W.takerIn K C name = some none) (hh : PySem.W.hasDictIn K C = true)
 (hw : PySem.Within mA ns) (hsz : ns.length <= sizeLine)
 (h : ∀ h', jH h' x dx C (fun y => if y = name then some v else mA y) -> Heap.SameBut dx s.heap h' -> Q () { s with heap := h', toks := s.toks + 2 }) :
 wpAny (model prog w) A (setAttr (.ref x) name v) Q E s := by
 obtain ⟨od, J, hl⟩ := I.look
 refine PySem.W.set_plain X J hs (PySem.W.osa_open (s := { s with toks := s.toks + 1 }) (r := none) X J hp ht fun b => ?_)
 obtain ⟨cd, hc, eW⟩ := PySem.W.any_some hh
 have hx : s.heap.get? x = some ⟨.ref C, some dx, .plain, #[]⟩ := I.obj
 refine wpAny_bind (wpAny_pure (wpAny_bind (wpAny_bind (wpAny_loadPart hx (wpAny_bind (PySem.W.Looks.here (s := { s with toks := s.toks + 1 }) (PySem.W.looks_clsIn X hc) ?_))))))
 rw [eW]
 refine wpAny_pure (a := some dx) (wpAny_bind (wpAny_pure (wpAny_bind ?_)))
 refine wpAny_nsSet1 (s := { s with toks := s.toks + 1 }) I.ns fun h' DC dH => ?_
 obtain ⟨oD, WX, WY, JR, JS, JT⟩ := DC.count (PySem.Within.cons name v hw)
 refine wpAny_bind (wpAny_lookBehind JR (by rw [JS]; exact pastItsLine_dict (Nat.le_trans JT (by rw [List.length_cons]; omega))) ?_)
 exact wpAny_pure (h _ ⟨(dH.2 _ (Ne.symm I.ne)).trans I.obj, DC, I.ne⟩ dH)
theorem JU {R : Result -> Shared -> Prop} {vs : List Value} {kw : List (Str × Value)} (X : K.In s.heap) (hm : PySem.W.makesIn K C = true)
 (hi : PySem.W.findIn K (.ref C) "__init__" = some (some (.ref f))) (hf : PySem.W.typeIn K (.ref f) = some (.type "function"))
 (h : codeAny (model prog w) (A.under (.builtin "type.__call__" ⟨.ref C :: vs, kw⟩)) (.call (.ref f) ⟨.ref (s.heap.objs.size + 1) :: vs, kw⟩) (PySem.W.InitBack (s.heap.objs.size + 1) R)
   { s with heap := (s.heap.push PySem.W.emptyDict).push (PySem.W.instObj C s.heap.objs.size) }) :
 codeAny (model prog w) A (.call (.ref C) ⟨vs, kw⟩) R s := by
 obtain ⟨hh, g, d, t, os⟩ := s
 exact PySem.W.make_core (PySem.W.makes_of X hm) (PySem.W.looks_findIn X hi) (fun self => PySem.W.bind_fn X self hf) (.inl rfl) h
end
noncomputable def cU (f : Str) (v : V) : List (Str × V) -> List (Str × V)
 | [] => [(f, v)]
 | (g, x) :: r => if g = f then (g, v) :: r else (g, x) :: cU f v r
theorem DD (f g : Str) (v : V) : ∀ fs : List (Str × V), (cU f v fs).lookup g = if g = f then some v else fs.lookup g
 | [] => by
  show List.lookup g [(f, v)] = _
  by_cases h : g = f
  ·have hb : (g == f) = true := beq_iff_eq.mpr h
   simp only [List.lookup, hb, if_pos h]
  ·have hb : (g == f) = false := beq_eq_false_iff_ne.mpr h
   simp only [List.lookup, hb, if_neg h]
 | (k, x) :: r => by
  have ih := DD f g v r
  rw [show cU f v ((k, x) :: r) = (if k = f then (k, v) :: r else (k, x) :: cU f v r) from rfl]
  by_cases hk : k = f
  ·rw [if_pos hk]
   by_cases h : g = k
   ·have hb : (g == k) = true := beq_iff_eq.mpr h
    simp only [List.lookup, hb, if_pos (h.trans hk)]
   ·have hb : (g == k) = false := beq_eq_false_iff_ne.mpr h
    simp only [List.lookup, hb, if_neg (fun e : g = f => h (e.trans hk.symm))]
  ·rw [if_neg hk]
   by_cases h : g = k
   ·have hb : (g == k) = true := beq_iff_eq.mpr h
    simp only [List.lookup, hb, if_neg (fun e : g = f => hk (h.symm.trans e))]
   ·have hb : (g == k) = false := beq_eq_false_iff_ne.mpr h
    simp only [List.lookup, hb]
    exact ih
theorem xO (f : Str) (v : V) : ∀ fs : List (Str × V), f ∈ (cU f v fs).map (·.1) /\ ∀ g, g ∈ fs.map (·.1) -> g ∈ (cU f v fs).map (·.1)
 | [] => ⟨by simp [cU], fun g h => by simp at h⟩
 | (k, x) :: r => by
  obtain ⟨i1, i2⟩ := xO f v r
  rw [show cU f v ((k, x) :: r) = (if k = f then (k, v) :: r else (k, x) :: cU f v r) from rfl]
  by_cases hk : k = f
  ·rw [if_pos hk]
   subst hk
   exact ⟨by simp, fun g h => by simpa using h⟩
  ·rw [if_neg hk]
   refine ⟨?_, fun g h => ?_⟩
   ·rw [List.map_cons]
    exact List.mem_cons_of_mem _ i1
   ·rw [List.map_cons] at h ⊢
    rcases List.mem_cons.mp h with e | e
    ·exact List.mem_cons.mpr (.inl e)
    ·exact List.mem_cons_of_mem _ (i2 g e)
theorem DE (f : Str) (v : V) : ∀ fs : List (Str × V), (cU f v fs).length <= fs.length + 1
 | [] => by simp [cU]
 | (k, x) :: r => by
  have ih := DE f v r
  rw [show cU f v ((k, x) :: r) = (if k = f then (k, v) :: r else (k, x) :: cU f v r) from rfl]
  by_cases hk : k = f
  ·rw [if_pos hk, List.length_cons, List.length_cons]; omega
  ·rw [if_neg hk, List.length_cons, List.length_cons]; omega
theorem cz.some_of {v : V} {o : Option Value} (r : cz (some v) o) : ∃ u, o = some u /\ RelV v u := by
 cases o with
 | none => exact (show False from r).elim
 | some u => exact ⟨u, rfl, r⟩
theorem cz.none_of {o : Option Value} (r : cz none o) : o = none := by
 cases o with
 | none => rfl
 | some u => exact (show False from r).elim
theorem JV {v : V} {u : Value} (r : RelV v u) : PySem.W.handedIn u = true := by
 cases v with
 | non => cases (show u = Value.none from r); rfl
 | bl b => cases (show u = Value.bool b from r); rfl
 | int i => obtain ⟨t, e⟩ := (show ∃ t, u = Value.int i t from r); cases e; rfl
 | str x => obtain ⟨t, e⟩ := (show ∃ t, u = Value.str x t from r); cases e; rfl
 | byt b => obtain ⟨t, e⟩ := (show ∃ t, u = Value.bytes b t from r); cases e; rfl
 | flt b => obtain ⟨t, e⟩ := (show ∃ t, u = Value.float b t from r); cases e; rfl
 | ref a => cases (show u = Value.ref a from r); rfl
 | ty n => cases (show u = Value.type n from r); rfl
section
variable {P : Program} {w : World} {H H' : Hp} {h h' : Heap} {a C dx : Addr} {fs Jn : List (Str × V)}
theorem sf (ag : bh P w H h) (e : H a = some (.ins C dx fs)) : ∃ mA, jH h a dx C mA /\ (∀ f, cz (fs.lookup f) (mA f)) /\ PySem.Within mA (fs.map (·.1)) /\ fs.length <= 1000 /\ H dx = some (.own a) := by
 obtain ⟨d, z, ne, ob, mA, n, r, q⟩ := (show bb P w H h a (.ins C dx fs) from ag a _ e)
 exact ⟨mA, ⟨ob, n, ne⟩, r, q, z, d⟩
end
structure eh (K : PySem.W.Frag) (C : Addr) : Prop where
 pg : PySem.W.plainGet K C Str.empty = true
 hd : PySem.W.hasDictIn K C = true
 po : PySem.W.plainOver K C = true
 sa : PySem.W.findIn K (.ref C) "__setattr__" = some (some (.builtin "object.__setattr__"))
theorem eh.get {K : PySem.W.Frag} {C : Addr} (c : eh K C) (f : Str) : PySem.W.plainGet K C f = true := c.pg
noncomputable def el (K : PySem.W.Frag) (C : Addr) (f : Str) : Prop := PySem.W.findIn K (.ref C) f = some none
theorem el.JW {K : PySem.W.Frag} {C : Addr} {f : Str} (n : el K C f) : PySem.W.takerIn K C f = some none := by
 unfold PySem.W.takerIn
 rw [show PySem.W.findIn K (.ref C) f = some none from n]
 rfl
structure Meth (K : PySem.W.Frag) (C : Addr) (m : Str) (f : Addr) : Prop where
 at_ : PySem.W.findIn K (.ref C) m = some (some (.ref f))
 fn : PySem.W.isFn K (.ref f) = true
 kp : PySem.W.keepIn K (.ref f) = true
section
variable {X : Cx} {pins : List (Addr × Obj)} {σ : St} {H : Hp} {s : Shared} {a C dx : Addr} {fs : List (Str × V)} {f : Str} {v : V} {A : Around} {E : Value -> Shared -> Prop}
theorem JX {b : Bool} {Q : Value -> Shared -> Prop} (I : Inv X pins σ H s) (e : H a = some (.ins C dx fs)) (c : eh X.K C) (n : el X.K C f) (l : fs.lookup f = some v)
 (h : ∀ u s', Inv X pins σ H s' -> RelV v u -> Q u s') : wpAny (model X.prog X.w) A (getAttr (.ref a) f b) Q E s := by
 obtain ⟨mA, O, r, _, _, _⟩ := sf I.ag e
 obtain ⟨u, hu, ru⟩ := cz.some_of (v := v) (o := mA f) (by rw [<- l]; exact r f)
 exact get_map I.bM O (c.get f) c.hd n hu (JV ru) (h u _ (I.tok _) ru)
theorem DF {m : Str} {g : Addr} {pl : Sem Bool} {Q : Value × List Value -> Shared -> Prop} (I : Inv X pins σ H s) (e : H a = some (.ins C dx fs)) (c : eh X.K C) (k : Meth X.K C m g) (l : fs.lookup m = none)
 (h : Q (.ref g, [.ref a]) s) : wpAny (model X.prog X.w) A (getMethod (.ref a) m pl) Q E s := by
 obtain ⟨mA, O, r, _, _, _⟩ := sf I.ag e
 have hn : mA m = none := cz.none_of (by rw [<- l]; exact r m)
 exact JP I.bM O (c.get m) k.at_ k.fn hn h
theorem JY {y : V} {u : Value} {Q : Unit -> Shared -> Prop} (I : Inv X pins σ H s) (e : H a = some (.ins C dx fs)) (c : eh X.K C) (n : el X.K C f) (hl : fs.length < 1000) (ry : RelV y u)
 (h : ∀ s', Inv X pins σ (upd H a (.ins C dx (cU f y fs))) s' -> Q () s') : wpAny (model X.prog X.w) A (setAttr (.ref a) f u) Q E s := by
 obtain ⟨mA, O, r, wi, _, ho⟩ := sf I.ag e
 have hz : (fs.map (·.1)).length <= sizeLine := by rw [List.length_map, sizeLine_eq]; omega
 refine JQ I.bM O c.sa c.po n.JW c.hd wi hz fun h' O' sb => h _ ?_
 have hd : ∃ o, h'.get? dx = some o := let ⟨o, _, _, e', _⟩ := O'.ns; ⟨o, e'⟩
 refine I.write (x := a) (e := dx) (by rw [e]; exact True.intro) (.inr ho) (fun b q hb z => (sb.2 b hb).trans z) hd ?_
 refine ⟨by rw [ay O.ne]; exact ho, ?_, O.ne, O'.obj, _, O'.ns, fun g => ?_, fun g hg => ?_⟩
 ·have := DE f y fs; omega
 ·show cz ((cU f y fs).lookup g) (if g = f then some u else mA g)
  rw [DD]
  by_cases q : g = f
  ·rw [if_pos q, if_pos q]; exact ry
  ·rw [if_neg q, if_neg q]; exact r g
 ·by_cases q : g = f
  ·rw [q]; exact (xO f y fs).1
  ·refine (xO f y fs).2 g (wi g fun z => hg ?_)
   show (if g = f then some u else mA g) = none
   rw [if_neg q]; exact z
theorem Inv.made (I : Inv X pins σ H s) : Inv X pins σ (upd (upd H s.heap.objs.size (.own (s.heap.objs.size + 1))) (s.heap.objs.size + 1) (.ins C s.heap.objs.size []))
 { s with heap := (s.heap.push PySem.W.emptyDict).push (PySem.W.instObj C s.heap.objs.size) } := by
 have e1 : (s.heap.push PySem.W.emptyDict).get? s.heap.objs.size = some PySem.W.emptyDict := Heap.get?_push_size s.heap rfl
 have e2 : ((s.heap.push PySem.W.emptyDict).push (PySem.W.instObj C s.heap.objs.size)).get? (s.heap.objs.size + 1) = some (PySem.W.instObj C s.heap.objs.size) := by
  have := Heap.get?_push_size (s.heap.push PySem.W.emptyDict) (o := PySem.W.instObj C s.heap.objs.size) rfl
  rwa [Heap.size_push] at this
 have e3 : (s.heap.push PySem.W.emptyDict).Ns s.heap.objs.size (fun _ => none) := ⟨PySem.W.emptyDict, #[], _, e1, rfl, (fun e he => absurd he (by simp)), fun _ => rfl⟩
 have I1 := I.laid (a := s.heap.objs.size) (o := .own (s.heap.objs.size + 1)) (h' := s.heap.push PySem.W.emptyDict) (t' := s.toks) (fun b u q => Heap.get?_push_of_some _ q) (Nat.le_refl _) ⟨_, e1⟩
 refine I1.laid (a := s.heap.objs.size + 1) (o := .ins C s.heap.objs.size []) (t' := s.toks) (fun b u q => Heap.get?_push_of_some _ q) (Nat.le_of_eq (Heap.size_push _ _)) ?_
 have ne : s.heap.objs.size ≠ s.heap.objs.size + 1 := Nat.ne_of_lt (Nat.lt_succ_self _)
 refine ⟨by rw [ay ne, aw], Nat.zero_le _, ne, e2, fun _ => none, (Heap.Ns1.of_empty e3).at fun o q => Heap.get?_push_of_some _ q, fun _ => True.intro, fun y hy => absurd rfl hy⟩
theorem JZ {prog : Program} {w : World} {env : Env} {e : Expr} {f : Str} {pos : Pos} {s : Shared} {Q : Value -> Shared -> Prop} (hb : attributeBase e f env (eval e env) = eval e env)
 (h : wpAny (model prog w) A (eval e env) (fun o s₁ => wpAny (model prog w) A (getAttr o f true) Q E s₁) E s) : wpAny (model prog w) A (eval (.Attribute e f pos) env) Q E s :=
 Attribute_any_ h (by rw [arm_eval_Attribute, hb])
end
noncomputable def lB (K : PySem.W.Frag) (ta : TE) (f : Str) : TE := fun σ H Q => ta σ H fun x H1 => ∃ a C dx fs v, x = .ref a /\ H1 a = some (.ins C dx fs) /\ eh K C /\ el K C f /\ fs.lookup f = some v /\ Q v H1
noncomputable def o7 (K : PySem.W.Frag) (ta tv : TE) (f : Str) : TS := fun D σ H => tv σ H fun y H1 => ta σ H1 fun x H2 => ∃ a C dx fs, x = .ref a /\ H2 a = some (.ins C dx fs) /\ eh K C /\ el K C f /\ fs.length < 1000 /\
 D.nx σ (upd H2 a (.ins C dx (cU f y fs)))
section
variable {X : Cx} {o e value : Expr} {f : Str} {pos pos' J0 : Pos} {ta tv : TE}
theorem fg (he : PE X e ta) (hb : attributeBase e f X.env (eval e X.env) = eval e X.env) : PE X (.Attribute e f pos) (lB X.K ta f) := by
 intro pins s σ H Q I h
 refine JZ hb (aq (he pins s σ H _ I h) fun u s1 ⟨x, H1, I1, rx, a, C, dx, fs, v, ex, ea, c, n, l, q⟩ => ?_)
 subst ex
 obtain rfl : u = Value.ref a := rx
 exact JX I1 ea c n l fun u' s2 I2 ru => ⟨v, H1, I2, ru, q⟩
theorem lC (ha : PE X o ta) (hv : PE X value tv) (hs : swapsWith value (some (.Attribute o f pos')) pos.line X.env = pure false) : PS X (.Assign [.Attribute o f pos'] value pos) (o7 X.K ta tv f) := by
 intro pins s σ H D I h
 refine plainObj_wpAny_Assign_Attribute (aq (hv pins s σ H _ I h) fun u s1 ⟨y, H1, I1, ry, q⟩ => aq (ha pins s1 σ H1 _ I1 q) fun ov s2 ⟨x, H2, I2, rx, a, C, dx, fs, ex, ea, c, n, l, q2⟩ => ?_) hs
 subst ex
 obtain rfl : ov = Value.ref a := rx
 exact JY I2 ea c n l ry fun s3 I3 => ⟨σ, _, I3, q2⟩
end
section
variable {X : Cx} {pins : List (Addr × Obj)} {σ : St} {H : Hp} {s : Shared} {A : Around} {E : Value -> Shared -> Prop} {Q : Value -> Shared -> Prop} {c : Value} {b : Bool}
inductive b5 (K : PySem.W.Frag) (H : Hp) : V -> Value -> Prop where
 | non : b5 K H .non (.type "NoneType")
 | bl (x : Bool) : b5 K H (.bl x) (.type "bool")
 | int (i : Int) : b5 K H (.int i) (.type "int")
 | str (x : Str) : b5 K H (.str x) (.type "str")
 | flt (x : UInt64) : b5 K H (.flt x) (.type "float")
 | lst {a : Addr} {xs : List V} (e : H a = some (.lst xs)) : b5 K H (.ref a) (.type "list")
 | aJ {a : Addr} {o : Obj} {xs : List V} (e : H a = some (.aJ o (.lst xs))) : b5 K H (.ref a) (.type "list")
 | tup {a : Addr} {xs : List V} (e : H a = some (.tup xs)) : b5 K H (.ref a) (.type "tuple")
 | dK {a : Addr} {kvs : List (Key × V)} (e : H a = some (.dK kvs)) : b5 K H (.ref a) (.type "dict")
 | dT {a : Addr} {kvs : List (List Key × V)} (e : H a = some (.dT kvs)) : b5 K H (.ref a) (.type "dict")
 | ins {a C dx : Addr} {fs : List (Str × V)} (e : H a = some (.ins C dx fs)) (cl : eh K C) (ha : PySem.W.findIn K (.ref C) "__class__" = some (some (.builtin "object.__class__")))
  (hn : PySem.W.specialIn K (.builtin "object.__class__") "__get__" = some (some (.builtin "getset_descriptor.__get__"))) (o8 : PySem.W.takesIn K (.builtin "object.__class__") = some true)
  (hm : PySem.W.mroIn K C (.type "object") = some true) : b5 K H (.ref a) (.ref C)
theorem J1 {x : V} {u t : Value} (I : Inv X pins σ H s) (rx : RelV x u) (ty : b5 X.K H x t) (e : PySem.W.kitOne X.K t c = some b) (h : ∀ tk, Q (.bool b) { s with toks := tk }) :
 wpAny (model X.prog X.w) A (call (.builtin "isinstance") [u, c]) Q E s := by
 cases ty with
 | non => cases (show u = Value.none from rx); exact PySem.W.kia_one PySem.W.kitx_none I.bM True.intro e (fun z => nomatch z) h
 | bl y => cases (show u = Value.bool y from rx); exact PySem.W.kia_one PySem.W.kitx_bool I.bM True.intro e (fun z => nomatch z) h
 | int i => obtain ⟨t, q⟩ := (show ∃ t, u = Value.int i t from rx); cases q; exact PySem.W.kia_one PySem.W.kitx_int I.bM True.intro e (fun z => nomatch z) h
 | str y => obtain ⟨t, q⟩ := (show ∃ t, u = Value.str y t from rx); cases q; exact PySem.W.kia_one PySem.W.kitx_str I.bM True.intro e (fun z => nomatch z) h
 | flt y => obtain ⟨t, q⟩ := (show ∃ t, u = Value.float y t from rx); cases q; exact PySem.W.kia_one PySem.W.kitx_float I.bM True.intro e (fun z => nomatch z) h
 | @lst a xs ea =>
  cases (show u = Value.ref a from rx)
  obtain ⟨_, _, n, _, h1⟩ := (show bb X.prog X.w H s.heap a (.lst xs) from I.ag a _ ea)
  exact PySem.W.kia_one PySem.W.kitx_list I.bM ⟨_, h1, rfl⟩ e (fun z => nomatch z) h
 | @aJ a ob xs ea =>
  cases (show u = Value.ref a from rx)
  obtain ⟨_, _, _, n, _, h1⟩ := (show bb X.prog X.w H s.heap a (.aJ ob (.lst xs)) from I.ag a _ ea)
  exact PySem.W.kia_one PySem.W.kitx_list I.bM ⟨_, h1, rfl⟩ e (fun z => nomatch z) h
 | @tup a xs ea =>
  cases (show u = Value.ref a from rx)
  obtain ⟨_, _, _, p⟩ := (show bb X.prog X.w H s.heap a (.tup xs) from I.ag a _ ea)
  obtain ⟨o, h1, h2, _⟩ := p
  exact PySem.W.kia_one PySem.W.kitx_tuple I.bM ⟨o, h1, h2⟩ e (fun z => nomatch z) h
 | @dK a kvs ea =>
  cases (show u = Value.ref a from rx)
  obtain ⟨_, _, vs, _, p⟩ := (show bb X.prog X.w H s.heap a (.dK kvs) from I.ag a _ ea)
  obtain ⟨o, es, ep, h1, h2, _⟩ := p
  exact PySem.W.kia_one PySem.W.kitx_dict I.bM ⟨o, h1, h2.1⟩ e (fun z => nomatch z) h
 | @dT a kvs ea =>
  cases (show u = Value.ref a from rx)
  obtain ⟨_, _, xs, _, o, es, ep, h1, h2, _⟩ := (show bb X.prog X.w H s.heap a (.dT kvs) from I.ag a _ ea)
  exact PySem.W.kia_one PySem.W.kitx_dict I.bM ⟨o, h1, h2.1⟩ e (fun z => nomatch z) h
 | @ins a C dx fs ea cl ha hn o8 hm =>
  cases (show u = Value.ref a from rx)
  obtain ⟨mA, O, _⟩ := sf I.ag ea
  obtain ⟨od, J, _⟩ := O.look
  exact PySem.W.kia_one (PySem.W.kitx_own (cl.get _) cl.hd ha hn o8 hm) I.bM J e (fun z => nomatch z) h
end
end L2
namespace L2
open PySem PySem.Spec PyProof.Rows
structure bE (k : Nat) (A : Around) : Prop where
 hd : A.handled = none
 dp : A.depth + 3 * k + 5 < recursionLimit
 un : A.units + 16 * k + 200 < cLine
theorem bE.mono {j k : Nat} {A : Around} (r : bE k A) (h : j <= k) : bE j A := ⟨r.hd, by have := r.dp; omega, by have := r.un; omega⟩
theorem bE.deeper {k : Nat} {A : Around} (r : bE (k + 1) A) (env : Env) : bE k (A.deeper env) :=
 ⟨r.hd, by have := r.dp; show A.depth + 1 + 3 * k + 5 < _; omega, by have := r.un; show A.units + 3 + 16 * k + 200 < _; omega⟩
theorem J5 {A : Around} {C : Addr} {us : List Value} {kw : List (Str × Value)} : (A.under (.builtin "type.__call__" ⟨.ref C :: us, kw⟩)).depth = A.depth + 1 := by
 first | rfl | simp [Around.under, Code.weight, Code.isCreation, Code.isGuard, Code.isCaller, Code.frames, Code.isFrame, guardIds]
theorem J6 {A : Around} {C : Addr} {us : List Value} {kw : List (Str × Value)} : (A.under (.builtin "type.__call__" ⟨.ref C :: us, kw⟩)).units = A.units + 1 := by
 first | rfl | simp [Around.under, Code.cUnits, Code.frames, Code.isFrame]
theorem bE.make {k : Nat} {A : Around} (r : bE (k + 1) A) (C : Addr) (us : List Value) (kw : List (Str × Value)) : bE k (A.under (.builtin "type.__call__" ⟨.ref C :: us, kw⟩)) :=
 ⟨r.hd, by have := r.dp; rw [J5]; omega, by have := r.un; rw [J6]; omega⟩
theorem bE.depth {k : Nat} {A : Around} (r : bE k A) : A.depth < recursionLimit := by have := r.dp; omega
theorem bE.units {k : Nat} {A : Around} (r : bE k A) : A.units + 64 < cLine := by have := r.un; omega
noncomputable def jI : TA := fun _ H Q => Q [] H
noncomputable def lD (ta : TE) (tr : TA) : TA := fun σ H Q => ta σ H fun x H1 => tr σ H1 fun xs H2 => Q (x :: xs) H2
section
variable {X : Cx} {e : Expr} {es : List Expr} {te : TE} {t : TA} {pos : Pos}
theorem ah : PA X [] jI := fun _ _ _ _ H Q I h => Calls.spliced_nil ⟨[], H, I, .nil, h⟩
theorem aa (ha : PE X e te) (hr : PA X es t) (hs : starEach (e :: es) X.env = (false, eval e X.env) :: starEach es X.env := by rfl) : PA X (e :: es) (lD te t) := by
 intro pos pins s σ H Q I h
 rw [hs]
 show wpAny _ _ (spliced ((false, eval e X.env) :: backTo pos (starEach es X.env))) _ _ s
 refine Calls.spliced_cons (aq (ha pins s σ H _ I h) fun u s1 ⟨x, H1, I1, r1, q1⟩ => ?_)
 exact aq (hr pos pins s1 σ H1 _ I1 q1) fun us s2 ⟨xs, H2, I2, r2, q2⟩ => ⟨x :: xs, H2, I2, .cons r1 r2, q2⟩
noncomputable def o9 (t : TA) : TE := fun σ H Q => t σ H fun xs H1 => xs.length <= sizeLine /\ ∀ p, H1 p = none -> Q (.ref p) (upd H1 p (.tup xs))
noncomputable def pd (t : TA) : TE := fun σ H Q => t σ H fun xs H1 => xs.length <= sizeLine /\ ∀ p, H1 p = none -> Q (.ref p) (upd H1 p (.lst xs))
theorem bH {x1} (h : PA X es t) : PE X (.Tuple es x1 pos) (o9 t) := by
 intro pins s σ H Q I hq
 refine wpAny_Tuple_spliced (aq (h pos pins s σ H _ I hq) fun us s1 ⟨xs, H1, I1, r, z, q⟩ => ⟨by rw [<- r.length]; exact z, ?_⟩)
 have hf : H1 s1.heap.objs.size = none := I1.ag.fresh (Nat.le_refl _)
 refine ⟨.ref s1.heap.objs.size, upd H1 s1.heap.objs.size (.tup xs), I1.laid (t' := s1.toks) (fun b u e => Heap.get?_push_of_some _ e) (Nat.le_refl _) ?_, rfl, q _ hf⟩
 exact ⟨z, us, r, ⟨_, Heap.get?_push_size _ rfl, rfl, _, rfl⟩⟩
theorem ij (h : PA X es t) : PE X (.List es pos) (pd t) := by
 intro pins s σ H Q I hq
 refine wpAny_List_spliced (aq (h pos pins s σ H _ I hq) fun us s1 ⟨xs, H1, I1, r, z, q⟩ => ⟨by rw [<- r.length]; exact z, ?_⟩)
 have hf : H1 s1.heap.objs.size = none := I1.ag.fresh (Nat.le_refl _)
 refine ⟨.ref s1.heap.objs.size, upd H1 s1.heap.objs.size (.lst xs), I1.laid (t' := s1.toks) (fun b u e => Heap.get?_push_of_some _ e) (Nat.le_refl _) ?_, rfl, q _ hf⟩
 exact ⟨z, us, 0, r, Heap.get?_push_size _ rfl⟩
end
noncomputable abbrev Sp := List V -> Hp -> VK -> XK -> Prop
noncomputable abbrev cK := List Env -> Hp -> Shared -> XK -> Value -> Shared -> Prop
structure jJ (P : Program) (w : World) (K : PySem.W.Frag) (mg : Str -> Option Value) (base : Heap) (A : Around) (outer : List Env) (s : Shared) (H : Hp) : Prop where
 frames : A.frames = some outer
 mod : Mod K mg base
 bs : ∀ b o, base.get? b = some o -> s.heap.get? b = some o /\ H b = none
 bsz : base.objs.size <= s.heap.objs.size
 d8 : s.heap.FunFrames base outer
 frf : ∀ b ∈ aN outer, H b = none
 ag : bh P w H s.heap
 bare : AllBare s.gens
noncomputable def CE (outer : List Env) (P : Program) (w : World) (H : Hp) (s : Shared) (Q : VK) (u : Value) (s' : Shared) : Prop :=
 ∃ v H', s'.os = s.os /\ AllBare s'.gens /\ Un (aN outer) [] H H' s.heap s'.heap /\ bh P w H' s'.heap /\ RelV v u /\ Q v H'
noncomputable def CR (CX : cK) (outer : List Env) (P : Program) (w : World) (H : Hp) (s : Shared) (Q : VK) (E : XK) (r : Result) (s' : Shared) : Prop :=
 match r with
 | .ok (.ret u) => CE outer P w H s Q u s'
 | .ok _ => False
 | .error e => CX outer H s E e s'
structure aL (P : Program) (w : World) (K : PySem.W.Frag) (mg : Str -> Option Value) (base : Heap) (CX : cK) (k : Nat) (f : Addr) (fd : FuncData) (ps : List Str) (sp : Sp) : Prop where
 len : ∀ vs H Q E, sp vs H Q E -> vs.length = ps.length
 run : ∀ (A : Around) (outer : List Env) (s : Shared) (H : Hp) (args : Args) (us : List Value) (vs : List V) (Q : VK) (E : XK), bE k A -> jJ P w K mg base A outer s H -> BindsTo s fd args (ps.zip us) -> Vals vs us -> sp vs H Q E ->
  codeAny (model P w) A (.call (.ref f) args) (CR CX outer P w H s Q E) s
theorem jJ.make {P : Program} {w : World} {K : PySem.W.Frag} {mg : Str -> Option Value} {base : Heap} {A : Around} {outer : List Env} {s : Shared} {H : Hp} (e : jJ P w K mg base A outer s H) (C : Addr) (us : List Value) (kw : List (Str × Value)) :
 jJ P w K mg base (A.under (.builtin "type.__call__" ⟨.ref C :: us, kw⟩)) outer s H := ⟨by first | exact e.frames | (simpa [Around.under, Code.envs, Code.isFrame, pushEnvs] using e.frames), e.mod, e.bs, e.bsz, e.d8, e.frf, e.ag, e.bare⟩
section
variable {X : Cx} {pins : List (Addr × Obj)} {σ : St} {H : Hp} {s s' : Shared}
theorem Inv.DG (I : Inv X pins σ H s) : jJ X.prog X.w X.K X.mg X.base X.A X.stack s H :=
 ⟨I.ok.frames, I.ok.mod, I.bs, Nat.le_trans I.ok.bsz I.sz, I.stack, I.oy, I.ag, I.bare⟩
theorem Inv.after {Q : VK} {u : Value} (I : Inv X pins σ H s) (h : CE X.stack X.prog X.w H s Q u s') : EP X pins σ Q u s' := by
 obtain ⟨v, H', os, bare, un, ag, r, q⟩ := h
 obtain ⟨hh, g, d, t, lE⟩ := s'
 obtain rfl : lE = s.os := os
 exact ⟨v, H', I.call (h' := hh) (g' := g) (d' := d) (t' := t) (ch := []) un ag bare (fun b z => absurd z (by simp)), r, q⟩
end
noncomputable def pe (sp : Sp) (bO : List V) (E : XK) (t : TA) : TE := fun σ H Q => t σ H fun vs H1 => sp (vs ++ bO) H1 Q E
noncomputable def lF (C : Addr) (m : Str) (sp : Sp) (bO : List V) (E : XK) (ta : TE) (t : TA) : TE := fun σ H Q => ta σ H fun x H1 => ∃ a dx fs, x = .ref a /\ H1 a = some (.ins C dx fs) /\ fs.lookup m = none /\
 t σ H1 fun vs H2 => sp (x :: (vs ++ bO)) H2 Q E
noncomputable def pf (C : Addr) (sp : Sp) (bO : List V) (E : XK) (t : TA) : TE := fun σ H Q => t σ H fun vs H1 => ∀ x dx, H1 x = none -> H1 dx = none -> dx ≠ x ->
 sp (.ref x :: (vs ++ bO)) (upd (upd H1 dx (.own x)) x (.ins C dx [])) (fun v H2 => v = .non /\ Q (.ref x) H2) E
noncomputable def Binds (K : PySem.W.Frag) (fd : FuncData) (ps : List Str) (ds : List Value) : Prop :=
 ∀ (s : Shared) (us : List Value), K.In s.heap -> (us ++ ds).length = ps.length -> BindsTo s fd ⟨us, []⟩ (ps.zip (us ++ ds))
theorem Binds.all {K : PySem.W.Frag} {fd : FuncData} {ps : List Str} (h : ∀ us : List Value, us.length = ps.length -> bindArgs fd ⟨us, []⟩ = pure (ps.zip us)) : Binds K fd ps [] := fun s us _ hl => by
 rw [List.append_nil] at hl ⊢
 exact .of_eq (h us hl)
noncomputable def Passes (CX : cK) (X : Cx) (E : XK) : Prop := ∀ (pins : List (Addr × Obj)) (σ : St) (H : Hp) (s : Shared) (e : Value) (s' : Shared), Inv X pins σ H s -> CX X.stack H s E e s' -> X.xe e s'
section
variable {X : Cx} {CX : cK} {k : Nat} {f C : Addr} {fd : FuncData} {ps : List Str} {sp : Sp} {bO : List V} {ds : List Value} {E : XK} {x m : Str} {p pos apos : Pos} {e o : Expr} {es : List Expr} {ta : TE} {t : TA}
theorem xP {pins : List (Addr × Obj)} {σ : St} {H : Hp} {s : Shared} {Q : VK} {us : List Value} {vs : List V} (F : aL X.prog X.w X.K X.mg X.base CX k f fd ps sp) (hr : bE k X.A) (hb : Binds X.K fd ps ds) (hd : Vals bO ds) (hx : Passes CX X E)
 (I : Inv X pins σ H s) (r : Vals vs us) (h : sp (vs ++ bO) H Q E) : wpAny (model X.prog X.w) X.A (call (.ref f) us) (EP X pins σ Q) X.xe s := by
 have r2 : Vals (vs ++ bO) (us ++ ds) := r.append hd
 have hl : (us ++ ds).length = ps.length := by rw [<- r2.length]; exact F.len _ _ _ _ h
 refine wpAny_call (codeAny_mono (F.run X.A X.stack s H ⟨us, []⟩ (us ++ ds) (vs ++ bO) Q E hr I.DG (hb s us I.bM hl) r2 h) fun r s' hq => ?_)
 cases r with
 | error e => exact hx pins σ H s e s' I hq
 | ok fl =>
  cases fl with
  | ret u => exact I.after hq
  | next => exact False.elim hq
  | brk => exact False.elim hq
  | cont => exact False.elim hq
theorem aG (F : aL X.prog X.w X.K X.mg X.base CX k f fd ps sp) (hr : bE k X.A) (hg : Gl X x) (hm : X.mg x = some (.ref f)) (hk : PySem.W.keepIn X.K (.ref f) = true) (hb : Binds X.K fd ps ds) (hd : Vals bO ds) (hx : Passes CX X E)
 (ha : PA X (e :: es) t) (gx : (x == ("__debug__" : Str)) = false := by decide) (he : starEach (e :: es) X.env = (false, eval e X.env) :: starEach es X.env := by rfl) (dj : (backTo pos (starEach es X.env)).any (·.1) = false := by rfl) :
 PE X (.Call (.Name x p) (e :: es) [] pos) (pe sp bO E t) := by
 intro pins s σ H Q I h
 refine wpAny_Call_Name_kw (rR I hg hm ?_ gx)
 refine PySem.W.callWith_K (h₀ := X.base) I.ok.mod.kin hk (aq (ha pos pins s σ H _ I h) fun us s1 ⟨vs, H1, I1, r, q⟩ => ⟨I1.bM, ?_⟩) he dj
 exact xP F hr hb hd hx I1 r q
theorem fK {pl : Sem Bool} (he : PE X o ta) (c : eh X.K C) (hm : Meth X.K C m f) (F : aL X.prog X.w X.K X.mg X.base CX k f fd ps sp) (hr : bE k X.A) (hb : Binds X.K fd ps ds) (hd : Vals bO ds) (hx : Passes CX X E) (ha : PA X (e :: es) t)
 (dF : starEach (e :: es) X.env = (false, eval e X.env) :: starEach es X.env := by rfl) (dj : (backTo pos (starEach es X.env)).any (·.1) = false := by rfl)
 (ht : eval (.Call (.Attribute o m apos) (e :: es) [] pos) X.env = (do
   let ov <- eval o X.env
   standAt apos.atName
   let (f, first) <- holding [ov] (getMethod ov m pl)
   callWith pos f first (backTo pos (starEach (e :: es) X.env)) (backToKw pos (keywordEach [] X.env))) := by rfl) :
 PE X (.Call (.Attribute o m apos) (e :: es) [] pos) (lF C m sp bO E ta t) := by
 intro pins s σ H Q I h
 refine PySem.W.methodCall_KW (pl := pl) (aq (he pins s σ H _ I h) fun u s1 ⟨x, H1, I1, rx, a, dx, fs, ex, ea, l, q⟩ => ?_) ht
 subst ex
 obtain rfl : u = Value.ref a := rx
 refine DF I1 ea c hm l ?_
 refine PySem.W.callWith_K (first := [.ref a]) (h₀ := X.base) I.ok.mod.kin hm.kp (aq (ha pos pins s1 σ H1 _ I1 q) fun us s2 ⟨vs, H2, I2, r, q2⟩ => ⟨I2.bM, ?_⟩) dF dj
 exact xP (us := .ref a :: us) (vs := .ref a :: vs) F hr hb hd hx I2 (.cons rfl r) q2
theorem DH {pl : Sem Bool} (he : PE X o ta) (c : eh X.K C) (hm : Meth X.K C m f) (F : aL X.prog X.w X.K X.mg X.base CX k f fd ps sp) (hr : bE k X.A) (hb : Binds X.K fd ps ds) (hd : Vals bO ds) (hx : Passes CX X E)
 (ht : eval (.Call (.Attribute o m apos) [] [] pos) X.env = (do
   let ov <- eval o X.env
   standAt apos.atName
   let (f, first) <- holding [ov] (getMethod ov m pl)
   callWith pos f first (backTo pos (starEach [] X.env)) (backToKw pos (keywordEach [] X.env))) := by rfl) :
 PE X (.Call (.Attribute o m apos) [] [] pos) (lF C m sp bO E ta jI) := by
 intro pins s σ H Q I h
 refine PySem.W.methodCall_KW (pl := pl) (aq (he pins s σ H _ I h) fun u s1 ⟨x, H1, I1, rx, a, dx, fs, ex, ea, l, q⟩ => ?_) ht
 subst ex
 obtain rfl : u = Value.ref a := rx
 refine DF I1 ea c hm l ?_
 exact PySem.W.callWith_K0 (first := [.ref a]) I1.bM hm.kp (xP (us := [.ref a]) (vs := [.ref a]) F hr hb hd hx I1 (.cons rfl .nil) q)
structure Mk (K : PySem.W.Frag) (C f : Addr) : Prop where
 makes : PySem.W.makesIn K C = true
 init : PySem.W.findIn K (.ref C) "__init__" = some (some (.ref f))
 fn : PySem.W.isFn K (.ref f) = true
 kp : PySem.W.keepIn K (.ref C) = true
theorem J9 {pins : List (Addr × Obj)} {σ : St} {H : Hp} {s : Shared} {Q : VK} {us : List Value} {vs : List V} (M : Mk X.K C f) (F : aL X.prog X.w X.K X.mg X.base CX k f fd ps sp) (hr : bE (k + 1) X.A) (hb : Binds X.K fd ps ds) (hd : Vals bO ds)
 (hx : Passes CX X E) (I : Inv X pins σ H s) (r : Vals vs us)
 (h : ∀ x dx, H x = none -> H dx = none -> dx ≠ x -> sp (.ref x :: (vs ++ bO)) (upd (upd H dx (.own x)) x (.ins C dx [])) (fun v H2 => v = .non /\ Q (.ref x) H2) E) :
 wpAny (model X.prog X.w) X.A (call (.ref C) us) (EP X pins σ Q) X.xe s := by
 have hq := h (s.heap.objs.size + 1) s.heap.objs.size (I.ag.fresh (Nat.le_succ _)) (I.ag.fresh (Nat.le_refl _)) (Nat.ne_of_lt (Nat.lt_succ_self _))
 have I2 := Inv.made (C := C) I
 have r2 : Vals (V.ref (s.heap.objs.size + 1) :: (vs ++ bO)) (Value.ref (s.heap.objs.size + 1) :: (us ++ ds)) := .cons rfl (r.append hd)
 have hl : (Value.ref (s.heap.objs.size + 1) :: us ++ ds).length = ps.length := by
  have e := r2.length
  rw [F.len _ _ _ _ hq] at e
  exact e.symm
 refine wpAny_call (JU (f := f) I.bM M.makes M.init (beq_iff_eq.mp M.fn) (codeAny_mono (F.run _ X.stack _ _ ⟨Value.ref (s.heap.objs.size + 1) :: us, []⟩ (Value.ref (s.heap.objs.size + 1) :: (us ++ ds)) _ _ E (hr.make C us [])
  (I2.DG.make C us []) (hb _ (Value.ref (s.heap.objs.size + 1) :: us) I2.bM hl) r2 hq) fun r s' eo => ?_))
 cases r with
 | error e => exact hx pins σ _ _ e s' I2 eo
 | ok fl =>
  cases fl with
  | ret u =>
   obtain ⟨v, H', I3, rv, ev, q3⟩ := I2.after eo
   subst ev
   exact ⟨rv, ⟨V.ref (s.heap.objs.size + 1), H', I3, rfl, q3⟩⟩
  | next => exact False.elim eo
  | brk => exact False.elim eo
  | cont => exact False.elim eo
theorem Ka (M : Mk X.K C f) (F : aL X.prog X.w X.K X.mg X.base CX k f fd ps sp) (hr : bE (k + 1) X.A) (hg : Gl X x) (hm : X.mg x = some (.ref C)) (hb : Binds X.K fd ps ds) (hd : Vals bO ds) (hx : Passes CX X E)
 (ha : PA X (e :: es) t) (gx : (x == ("__debug__" : Str)) = false := by decide) (he : starEach (e :: es) X.env = (false, eval e X.env) :: starEach es X.env := by rfl) (dj : (backTo pos (starEach es X.env)).any (·.1) = false := by rfl) :
 PE X (.Call (.Name x p) (e :: es) [] pos) (pf C sp bO E t) := by
 intro pins s σ H Q I h
 refine wpAny_Call_Name_kw (rR I hg hm ?_ gx)
 refine PySem.W.callWith_K (h₀ := X.base) I.ok.mod.kin M.kp (aq (ha pos pins s σ H _ I h) fun us s1 ⟨vs, H1, I1, r, q⟩ => ⟨I1.bM, ?_⟩) he dj
 exact J9 M F hr hb hd hx I1 r q
end
section
variable {X : Cx} {CX : cK} {k : Nat} {f C : Addr} {fd : FuncData} {ps ks : List Str} {sp : Sp} {E : XK} {x m : Str} {p pos apos WZ : Pos} {e o : Expr} {es : List Expr} {W0 : List Keyword} {te ta : TE} {t tk : TA} {nm : Option Str}
variable {g : List Value -> List Value -> List Value} {gV : List V -> List V -> List V}
end
structure aU (N P : List Str) (sc : Scope) : Prop where
 kind : sc.kind = .function
 co : sc.isCoroutine = false
 gen : sc.isGenerator = false
 nd : N.Nodup
 pre : N.take P.length = P
 par : ∀ x ∈ P, sc.names.lookup x = some .local ∨ sc.names.lookup x = some .cell
 nofree : ∀ y ∈ sc.names, y.2 ≠ .free
theorem DI {kindOf : Str -> Option NameKind} {x : Str} : ∀ {binds : List (Str × Value)} {m : Str -> Option Value}, (∀ v, (x, v) ∉ binds) -> bindL kindOf binds m x = m x
 | [], _, _ => rfl
 | (n, v) :: r, m, h => by
  unfold bindL
  rw [DI fun w hw => h w (List.mem_cons_of_mem _ hw)]
  split
  ·have : x ≠ n := by rintro rfl; exact h v List.mem_cons_self
   simp [this]
  ·rfl
theorem DJ {kindOf : Str -> Option NameKind} {x : Str} : ∀ {binds : List (Str × Value)} {m : Str -> Option Value}, (∀ v, (x, v) ∉ binds) -> bindC kindOf binds m x = m x
 | [], _, _ => rfl
 | (n, v) :: r, m, h => by
  unfold bindC
  rw [DJ fun w hw => h w (List.mem_cons_of_mem _ hw)]
  split
  ·rfl
  ·have : x ≠ n := by rintro rfl; exact h v List.mem_cons_self
   simp [this]
theorem DK {kindOf : Str -> Option NameKind} {x : Str} {v : Value} : ∀ {P : List Str} {vs : List Value} {i : Nat} {m : Str -> Option Value}, P.Nodup -> P[i]? = some x -> vs[i]? = some v -> kindOf x = some .local ->
 bindL kindOf (P.zip vs) m x = some v
 | [], _, _, _, _, h, _, _ => by simp at h
 | _ :: _, [], _, _, _, _, h, _ => by simp at h
 | p :: P, w :: vs, 0, m, nd, h1, h2, hk => by
  simp at h1 h2; subst h1; subst h2
  show bindL kindOf ((p, w) :: P.zip vs) m p = _
  unfold bindL
  rw [DI fun v hv => (List.nodup_cons.mp nd).1 (List.of_mem_zip hv).1, if_pos hk]
  simp
 | p :: P, w :: vs, i + 1, m, nd, h1, h2, hk => by
  show bindL kindOf ((p, w) :: P.zip vs) m x = _
  unfold bindL
  exact DK (i := i) (List.nodup_cons.mp nd).2 (by simpa using h1) (by simpa using h2) hk
theorem DL {kindOf : Str -> Option NameKind} {x : Str} {v : Value} : ∀ {P : List Str} {vs : List Value} {i : Nat} {m : Str -> Option Value}, P.Nodup -> P[i]? = some x -> vs[i]? = some v -> kindOf x ≠ some .local ->
 bindC kindOf (P.zip vs) m x = some v
 | [], _, _, _, _, h, _, _ => by simp at h
 | _ :: _, [], _, _, _, _, h, _ => by simp at h
 | p :: P, w :: vs, 0, m, nd, h1, h2, hk => by
  simp at h1 h2; subst h1; subst h2
  show bindC kindOf ((p, w) :: P.zip vs) m p = _
  unfold bindC
  rw [DJ fun v hv => (List.nodup_cons.mp nd).1 (List.of_mem_zip hv).1, if_neg hk]
  simp
 | p :: P, w :: vs, i + 1, m, nd, h1, h2, hk => by
  show bindC kindOf ((p, w) :: P.zip vs) m x = _
  unfold bindC
  exact DL (i := i) (List.nodup_cons.mp nd).2 (by simpa using h1) (by simpa using h2) hk
noncomputable def start (N : List Str) (vs : List V) : St := vs.map some ++ List.replicate (N.length - vs.length) none
noncomputable def dk (CX : cK) (P : Program) (w : World) (K : PySem.W.Frag) (mg : Str -> Option Value) (base : Heap) (N : List Str) (qual : Str) (scope : Scope) (f : Addr) (cd : Value) (A : Around) (outer : List Env) (s : Shared) (H : Hp) (E : XK) : Cx where
 prog := P
 w := w
 K := K
 mg := mg
 base := base
 A := A.deeper (envOfC qual scope s.heap.objs.size f cd)
 N := N
 s₀ := s
 H₀ := H
 env := envOfC qual scope s.heap.objs.size f cd
 outer := outer
 stack := envOfC qual scope s.heap.objs.size f cd :: outer
 ex := []
 calm := true
 fn := fun _ => true
 pn := []
 xe := fun e s' => wpAny (model P w) (A.deeper (envOfC qual scope s.heap.objs.size f cd)) (leaving (envOfC qual scope s.heap.objs.size f cd) e) (fun _ ph => CX outer H s E e ph) (fun e' ph => CX outer H s E e' ph) s'
theorem DM {sc : Scope} {n : Nat} {x : Str} (h : sc.names.lookup x = some .cell) : ∃ c, (cellsFrom n sc.names []).lookup x = some c := by
 have q := PySem.W.cellsFrom_some sc.names n [] (.inl h)
 exact Option.isSome_iff_exists.mp q
theorem Kb {CX : cK} {P : Program} {w : World} {K : PySem.W.Frag} {mg : Str -> Option Value} {base : Heap} {N ps : List Str} {qual : Str} {scope : Scope} {f : Addr} {cd : Value} {A : Around} {outer : List Env} {s s1 : Shared} {H : Hp} {E : XK} {us : List Value} {vs : List V}
 (S : aU N ps scope) (hd : A.handled = none) (e0 : jJ P w K mg base A outer s H) (hl : vs.length = ps.length) (r : Vals vs us)
 (x : InCallC s s.heap.objs.size (bindL (envOfC qual scope s.heap.objs.size f cd).kindOf (ps.zip us) fun _ => none) (cellsFrom (s.heap.objs.size + 1) scope.names []) (bindC (envOfC qual scope s.heap.objs.size f cd).kindOf (ps.zip us) fun _ => none) s1) :
 Inv (dk CX P w K mg base N qual scope f cd A outer s H E) [] (start N vs) H s1 := by
 have dj : ps.length <= N.length := by have := congrArg List.length S.pre; rw [List.length_take] at this; omega
 obtain ⟨h1, tk, rfl, hk⟩ := x.done
 have pj : ∀ b : Addr, b ∉ (dk CX P w K mg base N qual scope f cd A outer s H E).ex := fun b z => absurd (show b ∈ ([] : List Addr) from z) (by simp)
 refine ⟨⟨e0.mod, S.kind, rfl, rfl, Nat.le_refl _, fun y z c h1 h2 => ?_, fun y hy => ?_, fun y c _ h => ?_, fun _ => hd, Around.frames_deeper e0.frames, .inr ⟨rfl, rfl⟩, fun b z => absurd z (pj b), e0.bs, e0.bsz, fun b _ _ => pj b, fun b z => absurd z (pj b), e0.d8, e0.frf⟩,
  rfl, e0.bare, Un.kept hk, ⟨_, x.toInCall.ns, fun i y v h1 h2 h3 => ?_⟩, fun y c h => ⟨_, x.cell y c h⟩, e0.ag.fresh (Nat.le_refl _), fun y c h => ?_, fun p hp => absurd (show p ∈ ([] : List (Addr × Obj)) from hp) (by simp), e0.ag.kept hk, ?_⟩
 ·exact name_of_addr x.apart (PySem.mem_of_lookup h1) (PySem.mem_of_lookup h2)
 ·have hy : scope.names.lookup y = some .cell ∨ scope.names.lookup y = some .free := hy
  rcases hy with hy | hy
  ·exact DM hy
  ·exact absurd rfl (S.nofree _ (PySem.mem_of_lookup hy))
 ·exact Nat.le_of_lt (x.above y c (PySem.mem_of_lookup h))
 ·have hi : i < vs.length := by
   unfold start at h2
   by_cases hi : i < vs.length
   ·exact hi
   ·rw [List.getElem?_append_right (by simpa using hi)] at h2
    rw [List.getElem?_replicate] at h2
    split at h2 <;> cases h2
  have ha : vs[i]? = some v := by
   unfold start at h2
   rw [List.getElem?_append_left (by simpa using hi), List.getElem?_map] at h2
   cases e : vs[i]? with
   | none => rw [e] at h2; cases h2
   | some a => rw [e] at h2; cases h2; rfl
  obtain ⟨u, hu, rv⟩ := r.get ha
  have hp : ps[i]? = some y := by
   rw [<- S.pre, List.getElem?_take_of_lt (by omega)]; exact h1
  have DN : ps.Nodup := by rw [<- S.pre]; exact S.nd.sublist (List.take_sublist _ _)
  refine ⟨u, rv, ?_⟩
  rcases S.par y (List.mem_of_getElem? hp) with k | k
  ·exact .inl ⟨k, DK DN hp hu k⟩
  ·obtain ⟨c, e⟩ := DM (n := s.heap.objs.size + 1) k
   refine .inr ⟨.inl k, c, e, ?_⟩
   have q := x.cell y c e
   rw [DL DN hp hu (by show scope.names.lookup y ≠ _; rw [k]; decide)] at q
   exact q
 ·exact e0.ag.fresh (Nat.le_of_lt (x.above y c (PySem.mem_of_lookup h)))
 ·unfold start
  show _ = N.length
  rw [List.length_append, List.length_map, List.length_replicate]
  omega
theorem xQ {CX : cK} {P : Program} {w : World} {K : PySem.W.Frag} {mg : Str -> Option Value} {base : Heap} {k : Nat} {f : Addr} {name qual : Str} {params : Arguments} {body : List Stmt} {scope : Scope} {dV kV doc pm aD ct oc : Value} {an od : Option Addr}
 {fL : Array (Option Value)} {N ps : List Str} {sp : Sp} (lk : K.lookup f = some ⟨oc, od, .func (PySem.W.fnOf name qual params body scope dV kV doc pm an aD ct), fL⟩) (dh : PySem.W.codeIn K aD qual = true) (S : aU N ps scope)
 (len : ∀ vs H Q E, sp vs H Q E -> vs.length = ps.length)
 (jK : ∀ (A : Around) (outer : List Env) (s : Shared) (H : Hp) (vs : List V) (Q : VK) (E : XK), bE k (A.deeper (envOfC qual scope s.heap.objs.size f aD)) -> sp vs H Q E ->
   ∃ t, bo (dk CX P w K mg base N qual scope f aD A outer s H E) body t /\ t { nx := fun _ H' => Q .non H', rt := Q } (start N vs) H) :
 aL P w K mg base CX (k + 1) f (PySem.W.fnOf name qual params body scope dV kV doc pm an aD ct) ps sp := by
 refine ⟨len, fun A outer s H args us vs Q E hr e0 hb r fM => ?_⟩
 have hl := len _ _ _ _ fM
 have KX : K.In s.heap := e0.mod.kin.keeps fun b o e => (e0.bs b o e).1
 have lim : s.heap.NoLimit := e0.mod.nolimit.keeps fun b o e => (e0.bs b o e).1
 have Kc : ∀ y ∈ ps.zip us, scope.names.lookup y.1 = some .local ∨ (scope.names.lookup y.1 = some .cell /\ ((cellsFrom (s.heap.objs.size + 1) scope.names []).lookup y.1).isSome = true) := fun ⟨n, v⟩ hy => by
  rcases S.par n (List.of_mem_zip hy).1 with q | q
  ·exact .inl q
  ·exact .inr ⟨q, PySem.W.cellsFrom_some _ _ _ (.inl q)⟩
 refine codeAny_call_function hr.depth (KX _ _ lk) rfl S.co S.gen rfl (PySem.W.codeRec_of KX dh) (hb _ _ _ _ ?_)
 refine wpAny_newFunctionEnv_cells S.kind Kc fun env he s1 x => ?_
 subst he
 refine ⟨lim.keeps x.toInCall.keep, codeAny_func ?_⟩
 obtain ⟨t, ht, hq⟩ := jK A outer s H vs Q E (hr.deeper _) fM
 have I : Inv (dk CX P w K mg base N qual scope f aD A outer s H E) [] (start N vs) H s1 := Kb S hr.hd e0 hl r x
 refine wpAny_mono (ht [] s1 (start N vs) H _ I hq) (fun fl s' hs => ?_) fun e s' hs => hs
 have fin : ∀ {σ' : St} {H' : Hp} {v : V} {u : Value}, Inv (dk CX P w K mg base N qual scope f aD A outer s H E) [] σ' H' s' -> RelV v u -> Q v H' -> CE outer P w H s Q u s' :=
  fun {σ' H' v u} J rv q => ⟨v, H', J.os, J.bare, J.base, J.ag, rv, q⟩
 cases fl with
 | ret u =>
  obtain ⟨v, σ', H', J, rv, q⟩ := hs
  exact fin J rv q
 | next =>
  obtain ⟨σ', H', J, q⟩ := hs
  exact fin (v := V.non) (u := Value.none) J rfl q
 | brk =>
  obtain ⟨_, _, _, q⟩ := hs
  exact False.elim q
 | cont =>
  obtain ⟨_, _, _, q⟩ := hs
  exact False.elim q
end L2
namespace L2
open PySem PySem.Spec PyProof.Rows
section
variable {X : Cx} {x : Str} {p pos : Pos} {e : Expr} {es : List Expr} {t : TA} {id T : String} {r : List V -> Hp -> VK -> Prop}
noncomputable def lH (r : List V -> Hp -> VK -> Prop) (t : TA) : TE := fun σ H Q => t σ H fun vs H1 => r vs H1 Q
theorem bX (hc : eg X (.builtin id) r) (hg : Gl X x) (hm : X.mg x = none) (hv : bootBuiltins x = some (.builtin id)) (ha : PA X (e :: es) t) (hn : x ≠ "__name__" := by decide) (gx : (x == ("__debug__" : Str)) = false := by decide)
 (he : starEach (e :: es) X.env = (false, eval e X.env) :: starEach es X.env := by rfl) (dj : (backTo pos (starEach es X.env)).any (·.1) = false := by rfl) : PE X (.Call (.Name x p) (e :: es) [] pos) (lH r t) := by
 intro pins s σ H Q I h
 refine wpAny_Call_Name_kw (fG I hg hm hv ?_ hn gx)
 exact PyProof.Rows.callWith_builtin1 (aq (ha pos pins s σ H _ I h) fun us s1 ⟨vs, H1, I1, r1, q1⟩ => hc pins s1 σ H1 vs us Q I1 r1 q1) he dj
theorem xR (hc : eg X (.type T) r) (hg : Gl X x) (hm : X.mg x = none) (hv : bootBuiltins x = some (.type T)) (ha : PA X (e :: es) t) (hn : x ≠ "__name__" := by decide) (gx : (x == ("__debug__" : Str)) = false := by decide)
 (he : starEach (e :: es) X.env = (false, eval e X.env) :: starEach es X.env := by rfl) (dj : (backTo pos (starEach es X.env)).any (·.1) = false := by rfl) : PE X (.Call (.Name x p) (e :: es) [] pos) (lH r t) := by
 intro pins s σ H Q I h
 refine wpAny_Call_Name_kw (fG I hg hm hv ?_ hn gx)
 exact PyProof.Rows.callWith_type1 (aq (ha pos pins s σ H _ I h) fun us s1 ⟨vs, H1, I1, r1, q1⟩ => hc pins s1 σ H1 vs us Q I1 r1 q1) he dj
end
end L2
namespace HT
open PySem PyProof.Rows
noncomputable def lexLt : List Int -> List Int -> Bool
 | [], [] => false
 | [], _ :: _ => true
 | _ :: _, [] => false
 | x :: xs, y :: ys => if x = y then lexLt xs ys else decide (x < y)
theorem pk (x y : Int) (xs ys : List Int) : lexLt (x :: xs) (y :: ys) = if x = y then lexLt xs ys else decide (x < y) := rfl
section
open PySem.SeqAt
open PySem.AutoSeq1 (wpAny_loadPart')
open PySem.MeetsSeq PySem.MeetsSeq2 PySem.MeetsSeq3
end
section
variable {prog : Program} {w : World} {A : Around} {E : Value -> Shared -> Prop} {s : Shared}
noncomputable def xS (n d : Nat) : Option Int -> Nat
 | none => d
 | some v => if v < 0 then (v + (n : Int)).toNat else min v.toNat n
end
end HT
namespace L2
open PySem PySem.Spec PyProof.Rows
noncomputable abbrev TO := St -> Hp -> (Option Int -> Hp -> Prop) -> Prop
noncomputable def si : TO := fun _ H Q => Q none H
noncomputable def sj (t : TE) : TO := fun σ H Q => t σ H fun x H1 => ∃ i, x = .int i /\ Q (some i) H1
theorem intsAre_of {ns : List Int} : ∀ {us : List Value}, Vals (ns.map V.int) us -> IntsAre us ns := by
 induction ns with
 | nil => intro us r; rw [List.map_nil] at r; cases r; exact .nil
 | cons n ns ih =>
  intro us r
  rw [List.map_cons] at r
  cases r with
  | cons r1 r2 =>
   obtain ⟨t, e⟩ := r1
   subst e
   exact .cons n t (ih r2)
section
variable {X : Cx} {e : Expr} {te : TE} {lo hi : Option Expr} {tl th : TO} {pos p2 : Pos}
noncomputable def sk (r : V -> Option Int -> Option Int -> Hp -> VK -> Prop) (te : TE) (tl th : TO) : TE := fun σ H Q => te σ H fun x H1 => tl σ H1 fun l H2 => th σ H2 fun u H3 => r x l u H3 Q
noncomputable def Kd (xs : List V) (lo hi : Option Int) : List V := (xs.drop (HT.xS xs.length 0 lo)).take (HT.xS xs.length xs.length hi - HT.xS xs.length 0 lo)
end
end L2
namespace L2
open PySem PySem.Spec PyProof.Rows
noncomputable def gy (n : Nat) (i : Int) : Option Nat := if 0 <= i then (if i < n then some i.toNat else none) else if -(n : Int) <= i then some (i + n).toNat else none
noncomputable def cV {α : Type} (xs : List α) (i : Int) : Option α := (gy xs.length i).bind fun j => xs[j]?
theorem DO {n : Nat} {i : Int} {j : Nat} (h : gy n i = some j) : seqIndex? i n = some j /\ j < n /\ -(n : Int) <= i /\ i < n := by
 unfold gy at h
 by_cases h0 : 0 <= i
 ·rw [if_pos h0] at h
  by_cases h1 : i < n
  ·rw [if_pos h1] at h
   have e : i.toNat = j := Option.some.inj h
   exact ⟨by rw [seqIndex_of h0 h1, e], by omega, by omega, h1⟩
  ·rw [if_neg h1] at h; cases h
 ·rw [if_neg h0] at h
  by_cases h1 : -(n : Int) <= i
  ·rw [if_pos h1] at h
   have e : (i + n).toNat = j := Option.some.inj h
   exact ⟨by rw [seqIndex_neg (by omega) h1, e], by omega, h1, by omega⟩
  ·rw [if_neg h1] at h; cases h
theorem xT {α : Type} {xs : List α} {i : Int} {v : α} (h : cV xs i = some v) : ∃ j, seqIndex? i xs.length = some j /\ xs[j]? = some v /\ j < xs.length /\ -(xs.length : Int) <= i /\ i < xs.length := by
 unfold cV at h
 cases e : gy xs.length i with
 | none => rw [e] at h; cases h
 | some j =>
  rw [e] at h
  obtain ⟨h1, h2, h3, h4⟩ := DO e
  exact ⟨j, h1, h, h2, h3, h4⟩
theorem gA {α : Type} {xs : List α} {j : Nat} {v : α} (h : xs[j]? = some v) : cV xs (j : Int) = some v := by
 have hj : j < xs.length := (List.getElem?_eq_some_iff.mp h).1
 have e : gy xs.length (j : Int) = some j := by
  unfold gy
  rw [if_pos (by omega), if_pos (by omega)]; simp
 unfold cV; rw [e]; exact h
noncomputable def Ke (b : Expr) : Prop := ∀ o i, subscripted b false o i = operate [o, i] (getItem o i)
noncomputable def fN (X : Cx) (r : R2) : Prop :=
 ∀ (value slice : Expr) (pins : List (Addr × Obj)) (s : Shared) (σ : St) (H : Hp) (x y : V) (v u : Value) (Q : VK), Inv X pins σ H s -> RelV x v -> RelV y u -> r x y H Q ->
  subscripted slice false v u = operate [v, u] (getItem v u) -> wpAny (model X.prog X.w) X.A (subscriptTail value slice v u) (EP X pins σ Q) X.xe s
noncomputable def DP (X : Cx) (id : String) (r : V -> List V -> Hp -> VK -> Prop) : Prop :=
 ∀ (pins : List (Addr × Obj)) (s : Shared) (σ : St) (H : Hp) (x : V) (xs : List V) (v : Value) (us : List Value) (Q : VK), Inv X pins σ H s -> RelV x v -> Vals xs us -> r x xs H Q ->
  wpAny (model X.prog X.w) X.A (call (.builtin id) (v :: us)) (EP X pins σ Q) X.xe s
section
variable {X : Cx} {a b : Expr} {ta tb : TE} {pos : Pos}
theorem fN.or {r r' : R2} (h : fN X r) (h' : fN X r') : fN X (fun x y H Q => r x y H Q ∨ r' x y H Q) := by
 intro value slice pins s σ H x y v u Q I rx ry q hs
 rcases q with q | q
 ·exact h value slice pins s σ H x y v u Q I rx ry q hs
 ·exact h' value slice pins s σ H x y v u Q I rx ry q hs
theorem au {r : R2} (hr : fN X r) (ha : PE X a ta) (hb : PE X b tb) (hs : Ke b) : PE X (.Subscript a b pos) (ic r ta tb) := by
 intro pins s σ H Q I h
 exact Subscript_ (xK ha hb I h fun v u s2 x y H2 I2 rx ry q => hr a b pins s2 σ H2 x y v u Q I2 rx ry q (hs _ _))
noncomputable def DQ (K : PySem.W.Frag) : R2 := fun x y H Q => ∃ p xs i v, x = .ref p /\ y = .int i /\ ai K H p xs /\ cV xs i = some v /\ Q v H
noncomputable def DR (K : PySem.W.Frag) : R2 := fun x y H Q => ∃ p xs i v, x = .ref p /\ y = .int i /\ ar K H p xs /\ cV xs i = some v /\ Q v H
noncomputable def DS : R2 := fun x y H Q => ∃ z i c, x = .str z /\ y = .int i /\ z.length <= sizeLine /\ cV z.cps.toList i = some c /\ Q (.str ⟨#[c]⟩) H
theorem Kf : fN X (DQ X.K) := by
 intro value slice pins s σ H x y v u Q I rx ry h hs
 obtain ⟨p, xs, i, z, rfl, rfl, hq, he, q⟩ := h
 cases rx
 obtain ⟨t, rfl⟩ := ry
 obtain ⟨af, r, pl, hz⟩ := I.list hq
 obtain ⟨j, h1, h2, h3, h4, h5⟩ := xT he
 obtain ⟨w, ew, fh⟩ := r.get h2
 have hl := r.length
 have hn := o5
 have fin : EP X pins σ Q w s := ⟨z, H, I, fh, q⟩
 by_cases h0 : 0 <= i
 ·have hj : i.toNat = j := by
   rw [seqIndex_of h0 h5] at h1
   exact Option.some.inj h1
  exact item_listR pl.isList h0 (by omega) (by rw [hj]; simpa using ew) fin hs
 ·have hj : (i + (af.toArray.size : Int)).toNat = j := by
   rw [seqIndex_neg (by omega) h4] at h1
   rw [List.size_toArray, <- hl]
   exact Option.some.inj h1
  exact subscriptTail_builtinR (x := w) pl.isList.typeIs slot_list_getitem.lookup
   (wpAny_getItem_list_neg (Q := fun r s' => r = w /\ EP X pins σ Q r s') pl.isList (by omega) (by rw [List.size_toArray] <;> omega) (by omega) (by rw [hj]; simpa using ew) ⟨rfl, fin⟩) hs
theorem Kg : fN X (DR X.K) := by
 intro value slice pins s σ H x y v u Q I rx ry h hs
 obtain ⟨p, xs, i, z, rfl, rfl, hq, he, q⟩ := h
 cases rx
 obtain ⟨t, rfl⟩ := ry
 obtain ⟨af, r, pl, hz⟩ := I.tuple hq
 obtain ⟨j, h1, h2, h3, h4, h5⟩ := xT he
 obtain ⟨w, ew, fh⟩ := r.get h2
 have hl := r.length
 have hn := o5
 have fin : EP X pins σ Q w s := ⟨z, H, I, fh, q⟩
 exact subscriptTail_builtinR (x := w) pl.typeIs slot_tuple_getitem.lookup
  (getItem_tuple (j := j) (Q := fun r s' => r = w /\ EP X pins σ Q r s') pl (by omega) (by omega) (by rw [List.size_toArray, <- hl]; exact h1) (by simpa using ew) ⟨rfl, fin⟩) hs
theorem Kh : fN X DS := by
 intro value slice pins s σ H x y v u Q I rx ry h hs
 obtain ⟨z, i, c, rfl, rfl, hz, he, q⟩ := h
 obtain ⟨t, rfl⟩ := rx
 obtain ⟨t', rfl⟩ := ry
 obtain ⟨j, h1, h2, h3, h4, h5⟩ := xT he
 have hl : z.cps.toList.length = z.length := by simp [Str.length]
 rw [hl] at h1 h4 h5
 have hn := o5
 exact tail_any (typeIs_str s z t) slot_str_getitem.lookup (getItem_str (c := c) (by
  have e1 : decide (i < -(2 ^ 63 : Int)) = false := decide_eq_false (by omega)
  have e2 : decide (i ≥ 2 ^ 63) = false := decide_eq_false (by omega)
  rw [e1, e2, Bool.or_false]) (by rw [h1]; simpa using h2) ⟨.str ⟨#[c]⟩, H, I.tok _, ⟨_, rfl⟩, q⟩) hs
noncomputable def dc (K : PySem.W.Frag) : R2 := fun x y H Q => DQ K x y H Q ∨ DR K x y H Q ∨ DS x y H Q
theorem az : fN X (dc X.K) := Kf.or (Kg.or Kh)
theorem Ki (af : List Value) (n j : Nat) (u : Value) : Obj.mapSeq (·.setIfInBounds j u) { cls := .type "list", data := .seq af.toArray n } = { cls := .type "list", data := .seq (af.set j u).toArray n } := by
 simp [Obj.mapSeq]
theorem Inv.lst {pins : List (Addr × Obj)} {σ : St} {H : Hp} {s : Shared} {p : Addr} {xs : List V} (I : Inv X pins σ H s) (h : H p = some (.lst xs)) :
 ∃ (af : List Value) (n : Nat), Vals xs af /\ s.heap.get? p = some { cls := .type "list", data := .seq af.toArray n } /\ xs.length <= sizeLine := by
 obtain ⟨z, af, n, r, e⟩ := I.ag p _ h
 exact ⟨af, n, r, e, z⟩
theorem Inv.Kj {pins : List (Addr × Obj)} {σ : St} {H : Hp} {s : Shared} {p : Addr} {xs ys : List V} {af its' : List Value} {n n' : Nat} {f : Obj -> Obj} (I : Inv X pins σ H s) (h : H p = some (.lst xs))
 (ho : s.heap.get? p = some { cls := .type "list", data := .seq af.toArray n }) (hf : f { cls := .type "list", data := .seq af.toArray n } = { cls := .type "list", data := .seq its'.toArray n' }) (r : Vals ys its') (hz : ys.length <= sizeLine) (t : Nat) :
 Inv X pins σ (upd H p (.lst ys)) { s with heap := s.heap.update p f, toks := t } := by
 have e : (s.heap.update p f).get? p = some { cls := .type "list", data := .seq its'.toArray n' } := by
  rw [Heap.get?_update_self f ho (by rw [hf] <;> rfl), hf]
 refine I.write (x := p) (e := p) (by rw [h]; trivial) (.inl rfl) (fun b u hb q => (Heap.get?_update_other _ _ (Ne.symm hb)).trans q) ⟨_, e⟩ ?_
 exact ⟨hz, its', n', r, e⟩
noncomputable def gB : V -> V -> V -> Hp -> (Hp -> Prop) -> Prop := fun o i v H Q => ∃ p xs k j, o = .ref p /\ i = .int k /\ H p = some (.lst xs) /\ gy xs.length k = some j /\ Q (upd H p (.lst (xs.set j v)))
theorem set_list : Du X gB := by
 intro pins s σ H o i v ov iv u Q I ro ri rv h
 obtain ⟨p, xs, k, j, rfl, rfl, hp, hj, q⟩ := h
 cases ro
 obtain ⟨t, rfl⟩ := ri
 obtain ⟨af, n, r, ho, hz⟩ := I.lst hp
 obtain ⟨h1, h2, h3, h4⟩ := DO hj
 have hl := r.length
 have hn := o5
 have I' : Inv X pins σ (upd H p (.lst (xs.set j v))) { s with heap := s.heap.update p (Obj.mapSeq (·.setIfInBounds j u)) } :=
  I.Kj hp ho (Ki af n j u) (r.set rv j) (by rw [List.length_set]; exact hz) s.toks
 by_cases h0 : 0 <= k
 ·have hk : k.toNat = j := by
   rw [seqIndex_of h0 h4] at h1
   exact Option.some.inj h1
  exact PySem.W.ki_setAt ho h0 (by omega) (by rw [List.size_toArray, <- hl]; exact h4) (by rw [hk]; exact ⟨_, I', q⟩)
 ·have hk : (k + (af.toArray.size : Int)).toNat = j := by
   rw [seqIndex_neg (by omega) h3] at h1
   rw [List.size_toArray, <- hl]
   exact Option.some.inj h1
  exact PySem.W.ki_setBack ho (by omega) (by rw [List.size_toArray, <- hl]; exact h3) (by omega) (by rw [hk]; exact ⟨_, I', q⟩)
noncomputable def sm (K : PySem.W.Frag) : V -> Option Int -> Option Int -> Hp -> VK -> Prop := fun x lo hi H Q => ∃ a xs, x = .ref a /\ ai K H a xs /\ ∀ p, H p = none -> Q (.ref p) (upd H p (.lst (Kd xs lo hi)))
noncomputable def xU (K : PySem.W.Frag) (T : String) (x : V) (H : Hp) : Prop := match x with
 | .str _ => T = "str"
 | .int _ => T = "int"
 | .ref p => (T = "list" /\ ∃ xs, ai K H p xs) ∨ (T = "tuple" /\ ∃ o, K.lookup p = some o /\ o.cls = .type "tuple" /\ o.dict = none) ∨
  (T = "dict" /\ ((∃ kvs, H p = some (.dK kvs)) ∨ ∃ kvs, H p = some (.dT kvs))) ∨ (T = "set" /\ ∃ S n, H p = some (.set S n))
 | _ => False
theorem DT {pins : List (Addr × Obj)} {σ : St} {H : Hp} {s : Shared} {T : String} {x : V} {v : Value} (I : Inv X pins σ H s) (r : RelV x v) (ty : xU X.K T x H) :
 s.TypeIs v T /\ ∀ a, v = .ref a -> ∃ ob, s.heap.get? a = some ob /\ ob.dict = none := by
 cases x with
 | str z =>
  obtain ⟨t, rfl⟩ := r
  cases (show T = "str" from ty)
  exact ⟨typeIs_str s z t, fun _ e => nomatch e⟩
 | int i =>
  obtain ⟨t, rfl⟩ := r
  cases (show T = "int" from ty)
  exact ⟨typeIs_int s i t, fun _ e => nomatch e⟩
 | ref p =>
  cases r
  rcases ty with ⟨rfl, xs, hq⟩ | ⟨rfl, o, hk, hc, hd⟩ | ⟨rfl, hk⟩ | ⟨rfl, S, n, hk⟩
  ·obtain ⟨af, _, pl, _⟩ := I.list hq
   refine ⟨pl.isList.typeIs, fun a e => ?_⟩
   cases e
   obtain ⟨o, n, e, c, hd, _⟩ := pl
   exact ⟨o, e, hd⟩
  ·refine ⟨⟨o, I.bM p o hk, hc⟩, fun a e => ?_⟩
   cases e
   exact ⟨o, I.bM _ o hk, hd⟩
  ·have z : ∃ o, s.heap.get? p = some o /\ o.ExactDict := by
    rcases hk with ⟨kvs, hk⟩ | ⟨kvs, hk⟩
    ·obtain ⟨_, _, _, _, o, _, _, e, ex, _⟩ := I.ag p _ hk
     exact ⟨o, e, ex⟩
    ·obtain ⟨_, _, _, _, o, _, _, e, ex, _⟩ := I.ag p _ hk
     exact ⟨o, e, ex⟩
   obtain ⟨o, e, ex⟩ := z
   refine ⟨⟨o, e, ex.1⟩, fun a e2 => ?_⟩
   cases e2
   exact ⟨o, e, ex.2.1⟩
  ·obtain ⟨o, _, _, _, e, ex, _⟩ := I.ag p _ hk
   refine ⟨⟨o, e, ex.1⟩, fun a e2 => ?_⟩
   cases e2
   exact ⟨o, e, ex.2.1⟩
 | _ => exact False.elim ty
noncomputable def gC (K : PySem.W.Frag) (T : String) (r : V -> List V -> Hp -> VK -> Prop) (to : TE) : TE := fun σ H Q => to σ H fun x H1 => xU K T x H1 /\ r x [] H1 Q
noncomputable def pq (K : PySem.W.Frag) (T : String) (r : V -> List V -> Hp -> VK -> Prop) (to : TE) (t : TA) : TE := fun σ H Q => to σ H fun x H1 => xU K T x H1 /\ t σ H1 fun xs H2 => r x xs H2 Q
variable {o e : Expr} {es : List Expr} {to : TE} {t : TA} {name : Str} {apos bY : Pos} {T id : String} {r : V -> List V -> Hp -> VK -> Prop}
theorem DU (pa : PlainAttrs T) (slot : Slot T name id) (jL : typeOf (.builtin id) = pure (.type "method_descriptor")) (hm : DP X id r) (ho : PE X o to)
 (xV : attributeBase o name X.env (eval o X.env) = eval o X.env := by rfl) (xW : (apos.endLine == bY.line) = true := by rfl) : PE X (.Call (.Attribute o name apos) [] [] bY) (gC X.K T r to) := by
 intro pins s σ H Q I h
 refine wpAny_Call_method0_late xV xW (aq (ho pins s σ H _ I h) fun v s1 ⟨x, H1, I1, r1, ty, q1⟩ => ?_)
 obtain ⟨h1, h2⟩ := DT I1 r1 ty
 exact ⟨T, id, pa, slot, jL, h1, h2, Calls.callWith_builtin rfl (PySem.evalArgs_none (hm pins s1 σ H1 x [] v [] Q I1 r1 .nil q1))⟩
theorem DV (pa : PlainAttrs T) (slot : Slot T name id) (jL : typeOf (.builtin id) = pure (.type "method_descriptor")) (hm : DP X id r) (ho : PE X o to) (ha : PA X (e :: es) t)
 (xV : attributeBase o name X.env (eval o X.env) = eval o X.env := by rfl)
 (Kk : ((backTo bY (starEach (e :: es) X.env)).all (fun x => !x.1) && (backToKw bY (keywordEach [] X.env)).all (fun x => x.1.isSome)
   && decide ((e :: es).length + ([] : List Keyword).length + (if ([] : List Keyword).isEmpty then 0 else 1) < 30)) = true := by rfl)
 (xW : (apos.endLine == bY.line) = true := by rfl) (hs : starEach (e :: es) X.env = (false, eval e X.env) :: starEach es X.env := by rfl) (Kl : (backTo bY (starEach es X.env)).any (·.1) = false := by rfl) :
 PE X (.Call (.Attribute o name apos) (e :: es) [] bY) (pq X.K T r to t) := by
 intro pins s σ H Q I h
 refine wpAny_Call_method_late xV Kk xW rfl (aq (ho pins s σ H _ I h) fun v s1 ⟨x, H1, I1, r1, ty, q1⟩ => ?_)
 obtain ⟨h1, h2⟩ := DT I1 r1 ty
 refine ⟨T, id, pa, slot, jL, h1, h2, ?_⟩
 have hA := ha bY pins s1 σ H1 _ I1 q1
 rw [hs] at hA ⊢
 refine Calls.callWith_builtin (by show (false || (backTo bY (starEach es X.env)).any (·.1)) = false; rw [Kl] <;> rfl) (Calls.evalArgs_plain ?_)
 exact aq hA fun us s2 ⟨vs, H2, I2, r2, q2⟩ => hm pins s2 σ H2 x vs v us Q I2 r1 r2 q2
end
end L2
namespace L2
open PySem PySem.Spec PyProof.Rows
noncomputable def xX (X : Cx) (id : String) (r : V -> List V -> Hp -> VK -> Prop) : Prop :=
 ∀ (pins : List (Addr × Obj)) (s : Shared) (σ : St) (H : Hp) (x : V) (xs : List V) (v : Value) (us : List Value) (Q : VK), Inv X pins σ H s -> RelV x v -> Vals xs us -> r x xs H Q ->
  wpAny (model X.prog X.w) X.A (call (.builtin id) (v :: us)) (EP X pins σ Q) X.xe s
theorem Vals.one : ∀ {x : V} {us : List Value}, Vals [x] us -> ∃ u, us = [u] /\ RelV x u
 | _, _, .cons r .nil => ⟨_, rfl, r⟩
theorem Vals.zero : ∀ {us : List Value}, Vals [] us -> us = []
 | _, .nil => rfl
theorem Vals.reverse {xs : List V} {us : List Value} (h : Vals xs us) : Vals xs.reverse us.reverse := by
 induction h with
 | nil => exact .nil
 | cons r t ih => rw [List.reverse_cons, List.reverse_cons]; exact Vals.append ih (.cons r .nil)
section
variable {X : Cx} {pins : List (Addr × Obj)} {σ : St} {H : Hp} {s : Shared} {l b : Addr} {xs ys zs : List V}
theorem Inv.xY {af its' : List Value} {n : Nat} {f : Array Value -> Array Value} {t' : Nat} (I : Inv X pins σ H s) (hH : H l = some (.lst xs))
 (e : s.heap.get? l = some { cls := .type "list", data := .seq af.toArray n }) (hf : f af.toArray = its'.toArray) (hv : Vals ys its') (hz : ys.length <= sizeLine) :
 Inv X pins σ (upd H l (.lst ys)) { s with heap := s.heap.update l (Obj.mapSeq f), toks := t' } := by
 have q := PySem.IsL.update e f
 rw [hf] at q
 refine I.write (x := l) (e := l) (by rw [hH]; exact trivial) (.inl rfl) (fun b' u hb hu => (Heap.get?_update_other s.heap (Obj.mapSeq f) (Ne.symm hb)).trans hu) ⟨_, q⟩ ?_
 exact ⟨hz, its', _, hv, q⟩
theorem Inv.Km {af : List Value} {t' : Nat} (I : Inv X pins σ H s) (hv : Vals ys af) (hz : ys.length <= sizeLine) :
 Inv X pins σ (upd H s.heap.objs.size (.lst ys)) { s with heap := s.heap.push { cls := .type "list", data := .seq af.toArray }, toks := t' } :=
 I.laid (fun _ _ q => Heap.get?_push_of_some _ q) (Nat.le_refl _) ⟨hz, af, 0, hv, Heap.get?_push_size _ rfl⟩
theorem Inv.fresh (I : Inv X pins σ H s) : H s.heap.objs.size = none := I.ag.fresh (Nat.le_refl _)
theorem Inv.pw (I : Inv X pins σ H s) (hH : H l = some (.lst xs)) : xs.length <= sizeLine /\ ∃ (af : List Value) (n : Nat), Vals xs af /\ xs.length = af.length /\ s.heap.get? l = some { cls := .type "list", data := .seq af.toArray n } := by
 obtain ⟨z, af, n, r, e⟩ := I.ag l _ hH
 exact ⟨z, af, n, r, r.length, e⟩
end
section
variable {X : Cx}
noncomputable def pA : V -> List V -> Hp -> VK -> Prop := fun x vs H Q => ∃ l xs y, x = .ref l /\ vs = [y] /\ H l = some (.lst xs) /\ xs.length < sizeLine /\ Q .non (upd H l (.lst (xs ++ [y])))
theorem DW : xX X "list.append" pA := by
 intro pins s σ H x vs v us Q I rx rv h
 obtain ⟨l, xs, y, rfl, rfl, hH, hz, q⟩ := h
 cases rx
 obtain ⟨u, rfl, ru⟩ := rv.one
 obtain ⟨z, af, n, r, hl, e⟩ := I.pw hH
 refine call_meets F.slot_list_append ⟨_, e, rfl⟩ F.entry_list_append (F.args_list_append_2 _ _) (PySem.list_append l af.toArray n u (by rw [List.size_toArray]; omega)) ⟨e, ?_⟩
 refine ⟨.non, _, I.xY (its' := af ++ [u]) hH e (by simp) (r.append (.cons ru .nil)) ?_, rfl, q⟩
 rw [List.length_append, List.length_singleton]
 omega
noncomputable def so : V -> List V -> Hp -> VK -> Prop := fun x vs H Q => ∃ l b xs zs, x = .ref l /\ vs = [.ref b] /\ H l = some (.lst xs) /\ H b = some (.lst zs) /\ xs.length + zs.length <= sizeLine /\ Q .non (upd H l (.lst (xs ++ zs)))
noncomputable def pB : V -> List V -> Hp -> VK -> Prop := fun x vs H Q => ∃ l xs, x = .ref l /\ vs = [] /\ H l = some (.lst xs) /\ Q .non (upd H l (.lst xs.reverse))
theorem Kn : xX X "list.reverse" pB := by
 intro pins s σ H x vs v us Q I rx rv h
 obtain ⟨l, xs, rfl, rfl, hH, q⟩ := h
 cases rx
 have xZ := rv.zero
 subst xZ
 obtain ⟨z, af, n, r, hl, e⟩ := I.pw hH
 refine call_meets F.slot_list_reverse ⟨_, e, rfl⟩ F.entry_list_reverse (F.args_list_reverse_1 _) (AutoSeq1.list_reverse_list_0 l af.toArray n (by rw [List.size_toArray]; omega)) ⟨e, ?_⟩
 refine ⟨.non, _, I.xY (its' := af.reverse) hH e (by simp) r.reverse ?_, rfl, q⟩
 rw [List.length_reverse]
 omega
noncomputable def Ko : V -> List V -> Hp -> VK -> Prop := fun x vs H Q => ∃ l xs, x = .ref l /\ vs = [] /\ H l = some (.lst xs) /\ Q .non (upd H l (.lst []))
theorem Kp : xX X "list.clear" Ko := by
 intro pins s σ H x vs v us Q I rx rv h
 obtain ⟨l, xs, rfl, rfl, hH, q⟩ := h
 cases rx
 have xZ := rv.zero
 subst xZ
 obtain ⟨z, af, n, r, hl, e⟩ := I.pw hH
 refine call_meets F.slot_list_clear ⟨_, e, rfl⟩ F.entry_list_clear (F.args_list_clear_1 _) (AutoSeq1.list_clear_list_0 l af.toArray n (by rw [List.size_toArray]; omega)) ⟨e, ?_⟩
 exact ⟨.non, _, I.xY (its' := []) (ys := []) hH e rfl .nil (Nat.zero_le _), rfl, q⟩
noncomputable def pC : R2 := fun x y H Q => ∃ l b xs zs, x = .ref l /\ y = .ref b /\ H l = some (.lst xs) /\ H b = some (.lst zs) /\ xs.length + zs.length <= sizeLine /\ ∀ p, H p = none -> Q (.ref p) (upd H p (.lst (xs ++ zs)))
theorem Kq : bW X (binaryOp .Add) pC := by
 intro pins s σ H x y v u Q I rx ry h
 obtain ⟨l, b, xs, zs, rfl, rfl, hH, hB, hz, q⟩ := h
 cases rx
 cases ry
 obtain ⟨z, af, n, r, hl, e⟩ := I.pw hH
 obtain ⟨z2, DX, n2, r2, bP, e2⟩ := I.pw hB
 refine PySem.P.add_list e e2 ?_ (by rw [List.size_toArray, List.size_toArray]; omega)
 have ea : af.toArray ++ DX.toArray = (af ++ DX).toArray := by simp
 rw [ea]
 exact ⟨.ref _, _, I.Km (t' := s.toks) (r.append r2) (by rw [List.length_append]; omega), rfl, q _ I.fresh⟩
end
section
variable {prog : Program} {w : World} {A : Around} {E : Value -> Shared -> Prop} {s : Shared}
set_option maxRecDepth 100000 in
end
section
variable {X : Cx}
end
end L2
namespace x3
open PySem PySem.W PySem.Calls PyProof.Rows
theorem Kr {P : Params} {h : Heap} : ∀ (ns : List Int) (vs : List Value), WellAll P h vs (ns.map WData.int) -> IntsAre vs ns := by
 intro ns
 induction ns with
 | nil =>
  intro vs w
  rw [List.map_nil] at w
  cases w
  exact .nil
 | cons n ns ih =>
  intro vs w
  rw [List.map_cons] at w
  cases w with
  | cons a b =>
   cases a
   exact .cons _ _ (ih _ b)
theorem Ks {l : OpenLaw} {n : Nat} (hn : l.most = some n) {P : Params} {h : Heap} {args : List WData} {vals : List Value}
 (DY : l.row.toRowW.claim.pre args = true) (Kt : WellAll P h vals args) :
 ∃ a vs ns, vals = [Value.ref a] /\ args = [WData.list (ns.map WData.int)] /\ h.get? a = some { cls := .type "list", data := .seq vs.toArray } /\ IntsAre vs ns /\ ns.length <= n := by
 have bq : WShape.hasAll [] args [.list .int] = true := (pre_splitW DY).1
 have hc : l.pre.holds [] { args := args } = true := (pre_splitW DY).2
 obtain ⟨d, r, rfl, h1, h2⟩ := hasAllW_cons bq
 obtain rfl := hasAllW_nil h2
 obtain ⟨xs, rfl, h3⟩ := hasW_list h1
 obtain ⟨ns, rfl⟩ := items_int h3
 have hlen : ns.length <= n := by
  unfold OpenLaw.pre at hc
  have h4 : (WTm.not (.lt (.lit (.int (n : Int))) (.len (.arg 0)))).holds [] { args := [.list (ns.map .int)] } = true := by
   have h4 := (holds_andW hc).1
   rw [hn] at h4
   exact h4
  have h5 := condW_of h4 (w_not (w_lt w_lit (w_len_list (w_arg rfl))))
  rw [List.length_map] at h5
  refine Nat.le_of_not_lt fun q => ?_
  have q' : (n : Int) < ((ns.length : Nat) : Int) := by omega
  first
   | (rw [decide_eq_true q'] at h5; exact absurd h5 (by decide))
   | (simp at h5; omega)
 cases Kt with
 | cons w1 w2 =>
  cases w2
  cases w1 with
  | list ho hall => exact ⟨_, _, ns, rfl, rfl, ho, Kr ns _ hall, hlen⟩
theorem Ku (l : OpenLaw) (args : List WData) : l.row.toRowW.claim.post args (.bool true) args = true :=
 postW_of (r := l.row.toRowW) (X := (true == true))
  (show WShape.has [] (.bool true) .bool = true by first | rfl | decide | simp [WShape.has, WShape.arms, WShape.armsAll])
  (show (WTm.eq .res (.lit (.bool true))).value [] { args := args, res := some (.bool true), after := args } = some (.bool (true == true)) from w_eq_bool (w_res rfl) w_lit) rfl
section
variable {prog : Program} {w : World} {A : Around} {E : Value -> Shared -> Prop} {s : Shared} {K : Frag}
end
end x3
namespace L2
open PySem PySem.Spec PyProof.Rows
theorem x4 : ∀ {vs : List Value} {ns : List Int}, IntsAre vs ns -> Vals (ns.map V.int) vs
 | _, _, .nil => .nil
 | _, _, .cons n t h => .cons ⟨t, rfl⟩ (x4 h)
noncomputable def DZ (H : Hp) : Prop := ∀ b, H b = none ∨ ∃ o xs, H b = some (.aJ o (.lst xs))
theorem Kv {P : Program} {w : World} {K : PySem.W.Frag} {mg mb : Str -> Option Value} {CX : cK} {k : Nat} {fa a : Addr} {fd : FuncData} {x : Str} {sp : Sp} {s₁ : Shared} {vs : List Value} {ns : List Int}
 (KX : K.In s₁.heap) (eB : s₁.heap.Ns mainGlobals mg) (hb : s₁.heap.Ns builtinsNs mb) (Kw : ∀ x : Str, x ≠ "__name__" -> mb x = bootBuiltins x) (Kx : s₁.heap.NoLimit) (hg : s₁.gens = #[])
 (ha : s₁.heap.get? a = some { cls := .type "list", data := .seq vs.toArray }) (hi : IntsAre vs ns) (hl : ns.length <= sizeLine) (hr : bE k callerA)
 (F : ∀ base : Heap, K.In base -> base.Ns mainGlobals mg -> aL P w K mg base CX k fa fd [x] sp) (Ky : ∀ (s : Shared) (u : Value), BindsTo s fd ⟨[u], []⟩ [(x, u)])
 (fM : ∀ H : Hp, DZ H -> ai K H a (ns.map V.int) -> sp [.ref a] H (fun v _ => v = .bl true) fun _ _ _ => False)
 (Kz : ∀ H e s', CX [] H s₁ (fun _ _ _ => False) e s' -> False) :
 codeAny (model P w) callerA (.call (.ref fa) ⟨[.ref a], []⟩) (fun r s' => r = .ok (.ret (.bool true)) /\ OldK s₁.heap s'.heap /\ s'.os = s₁.os /\ AllBare s'.gens) s₁ := by
 have rv := x4 hi
 have KA := hi.length
 have core : ∀ H : Hp, DZ H -> ai K H a (ns.map V.int) -> bh P w H s₁.heap -> (∀ b, H b ≠ none -> b = a) -> (H a ≠ none -> K.lookup a = none) ->
  codeAny (model P w) callerA (.call (.ref fa) ⟨[.ref a], []⟩) (fun r s' => r = .ok (.ret (.bool true)) /\ OldK s₁.heap s'.heap /\ s'.os = s₁.os /\ AllBare s'.gens) s₁ := by
  intro H hO hS ag hA hK
  have D0 : ∀ {b : Addr} {o : Obj}, s₁.heap.get? b = some o -> H b = none -> (gb s₁.heap H).get? b = some o := fun e n => Jp e n
  have pj : ∀ {b : Addr} {o : Obj} {es : Array DictEntry} {ep : Nat}, s₁.heap.get? b = some o -> o.data = .dict es ep -> H b = none := fun {b o es ep} e d => by
   cases q : H b with
   | none => rfl
   | some u =>
    have e' : b = a := hA b (by rw [q]; simp)
    subst e'
    rw [ha] at e; cases e
    have d' : Data.seq vs.toArray _ = Data.dict es ep := d
    cases d'
  have sq : ∀ {b : Addr} {m : Str -> Option Value}, s₁.heap.Ns b m -> (gb s₁.heap H).Ns b m := fun {b m} ⟨o, es, ep, e, d, r⟩ => ⟨o, es, ep, D0 e (pj e d), d, r⟩
  have D1 : K.In (gb s₁.heap H) := fun b o e => D0 (KX b o e) (by
   cases q : H b with
   | none => rfl
   | some u =>
    have e' : b = a := hA b (by rw [q]; simp)
    subst e'
    rw [hK (by rw [q]; simp)] at e; cases e)
  have hM : Mod K mg (gb s₁.heap H) := ⟨D1, sq eB, ⟨mb, sq hb, Kw⟩, let ⟨mc, h1, h2⟩ := Kx; ⟨mc, sq h1, h2⟩⟩
  have e0 : jJ P w K mg (gb s₁.heap H) callerA [] s₁ H := ⟨rfl, hM, fun b o e => Jq e, Nat.le_of_eq (Jo _ _), trivial, fun b hb => absurd (show b ∈ ([] : List Addr) from hb) (by simp), ag, .of_eq hg⟩
  refine codeAny_mono ((F _ D1 (sq eB)).run callerA [] s₁ H ⟨[.ref a], []⟩ [.ref a] [.ref a] _ _ hr e0 (Ky s₁ (.ref a)) (.cons rfl .nil) (fM H hO hS)) fun r s' h => ?_
  cases r with
  | error e => exact (Kz H e s' h).elim
  | ok fl =>
   cases fl with
   | next => exact False.elim h
   | brk => exact False.elim h
   | cont => exact False.elim h
   | ret u =>
    obtain ⟨v, H', os, bare, un, KC, r', q⟩ := h
    have q' : v = .bl true := q
    subst q'
    obtain rfl : u = Value.bool true := r'
    refine ⟨rfl, OldK.of_keep fun b o e => ?_, os, bare⟩
    cases q : H b with
    | none => exact un.keep b o e q (by intro z; exact absurd (show b ∈ ([] : List Addr) from z) (by simp)) (by simp)
    | some u =>
     rcases hO b with z | ⟨ob, xs, z⟩
     ·rw [q] at z; cases z
     ·have z2 := un.cw b ob _ z
      obtain ⟨e1, _⟩ := ag b _ z
      obtain ⟨e2, _⟩ := KC b _ z2
      rw [e] at e1; cases e1
      exact e2
 cases hk : K.lookup a with
 | some o =>
  have e := KX a o hk
  rw [ha] at e
  cases e
  refine core (fun _ => none) (fun _ => .inl rfl) (.inr ⟨_, vs.toArray, _, hk, rfl, rfl, rfl, by rw [List.size_toArray, KA]; exact hl, by simpa using rv⟩) (fun b u z => by have z' : (none : Option HO) = some u := z; cases z') (fun b z => absurd rfl z) fun z => absurd rfl z
 | none =>
  refine core (fun b => if b = a then some (.aJ { cls := .type "list", data := .seq vs.toArray } (.lst (ns.map V.int))) else none) (fun b => ?_) (.inl (.inr ⟨{ cls := .type "list", data := .seq vs.toArray }, if_pos rfl⟩)) (fun b u z => ?_) (fun b z => ?_) fun _ => hk
  ·by_cases hb : b = a
   ·exact .inr ⟨_, _, if_pos hb⟩
   ·exact .inl (if_neg hb)
  ·by_cases hb : b = a
   ·have z' := (if_pos hb).symm.trans z
    cases z'
    subst hb
    exact ⟨ha, by rw [List.length_map]; exact hl, vs, _, rv, ha⟩
   ·have z' := (if_neg hb).symm.trans z
    cases z'
  ·by_cases hb : b = a
   ·exact hb
   ·exact absurd (if_neg hb) z
end L2
namespace L2
open PySem PySem.Spec PyProof.Rows
end L2
namespace L2
open PySem PySem.Spec PyProof.Rows
noncomputable def inClass (s : Stmt) (j : Nat) : Stmt := match s with
 | .ClassDef _ _ _ body _ _ _ _ _ _ _ => body.getD j (.Pass ⟨0, 0, 0, 0⟩)
 | _ => .Pass ⟨0, 0, 0, 0⟩
noncomputable def aT (s : Stmt) : Arguments := match s with
 | .FunctionDef _ a _ _ _ _ _ _ _ _ => a
 | _ => { posonlyargs := [], args := [], vararg := none, kwonlyargs := [], kw_defaults := [], kwarg := none, defaults := [] }
noncomputable def aP (s : Stmt) : List Stmt := match s with
 | .FunctionDef _ _ b _ _ _ _ _ _ _ => b
 | _ => []
noncomputable def av (s : Stmt) : Scope := match s with
 | .FunctionDef _ _ _ _ _ _ sc _ _ _ => sc
 | _ => { kind := .function, names := [], isGenerator := false, isCoroutine := false }
noncomputable abbrev D2 : cK := fun _ _ _ _ _ _ => False
noncomputable abbrev E0 : XK := fun _ _ _ => False
structure aS (K : PySem.W.Frag) (x qual : Str) (st : Stmt) (f : Addr) (fd : FuncData) : Prop where
 ex : ∃ (oc : Value) (od : Option Addr) (kV doc pm : Value) (an : Option Addr) (aD ct : Value) (fL : Array (Option Value)),
  fd = PySem.W.fnOf x qual (aT st) (aP st) (av st) .none kV doc pm an aD ct /\ K.lookup f = some ⟨oc, od, .func fd, fL⟩ /\ PySem.W.codeIn K aD qual = true
 kp : PySem.W.keepIn K (.ref f) = true
section
variable {P : Program} {w : World} {K : PySem.W.Frag} {mg : Str -> Option Value} {base : Heap}
theorem aS.ok {x qual : Str} {st : Stmt} {f : Addr} {fd : FuncData} {N ps : List Str} {k : Nat} {sp : Sp} (F : aS K x qual st f fd) (S : aU N ps (av st)) (len : ∀ vs H Q E, sp vs H Q E -> vs.length = ps.length)
 (jK : ∀ (aD : Value) (A : Around) (outer : List Env) (s : Shared) (H : Hp) (vs : List V) (Q : VK) (E : XK), bE k (A.deeper (envOfC qual (av st) s.heap.objs.size f aD)) -> sp vs H Q E ->
   ∃ t, bo (dk D2 P w K mg base N qual (av st) f aD A outer s H E).fH (aP st) t /\ t { nx := fun _ H' => Q .non H', rt := Q } (start N vs) H) : aL P w K mg base D2 (k + 1) f fd ps sp := by
 obtain ⟨oc, od, kV, doc, pm, an, aD, ct, fL, rfl, lk, dh⟩ := F.ex
 refine xQ lk dh S len fun A outer s H vs Q E hr fM => ?_
 obtain ⟨t, h, q⟩ := jK aD A outer s H vs Q E hr fM
 exact ⟨t, h.fH, q⟩
theorem aS.binds {x qual : Str} {st : Stmt} {f : Addr} {fd : FuncData} {ps : List Str} (F : aS K x qual st f fd)
 (h : ∀ (kV doc pm : Value) (an : Option Addr) (aD ct : Value) (us : List Value), us.length = ps.length -> bindArgs (PySem.W.fnOf x qual (aT st) (aP st) (av st) .none kV doc pm an aD ct) ⟨us, []⟩ = pure (ps.zip us)) : Binds K fd ps [] := by
 obtain ⟨oc, od, kV, doc, pm, an, aD, ct, fL, rfl, lk, dh⟩ := F.ex
 exact .all (h kV doc pm an aD ct)
theorem aX {x qual : Str} {st : Stmt} {f : Addr} {oc : Value} {od an : Option Addr} {fL : Array (Option Value)} {kV doc pm aD ct : Value} (l : K.lookup f = some ⟨oc, od, .func (PySem.W.fnOf x qual (aT st) (aP st) (av st) .none kV doc pm an aD ct), fL⟩)
 (c : PySem.W.codeIn K aD qual = true) (k : PySem.W.keepIn K (.ref f) = true) : aS K x qual st f (PySem.W.fnOf x qual (aT st) (aP st) (av st) .none kV doc pm an aD ct) := ⟨⟨oc, od, kV, doc, pm, an, aD, ct, fL, rfl, l, c⟩, k⟩
end
theorem cL {A : Around} {k : Nat} (hr : bE k A) : A.units + 1 < cLine := Nat.lt_of_le_of_lt (Nat.add_le_add_left (by decide : 1 <= 64) _) hr.units
section
variable {X : Cx}
theorem pv (i : Nat) {x : Str} {pos : Pos} (hN : X.N[i]? = some x := by rfl) (hv : xC X.env.scope x := by first | exact Or.inl rfl | exact Or.inr (Or.inl rfl) | exact Or.inr (Or.inr rfl)) (hd : (x == ("__debug__" : Str)) = false := by decide)
 (dh : (x == ("__classdict__" : Str)) = false := by decide) : PE X (.Name x pos) (kZ i) := Jv hN hv hd dh
end
noncomputable def aj (H H' : Hp) : Prop := ∀ b o, H b = some o -> H' b = some o
theorem aj.refl (H : Hp) : aj H H := fun _ _ h => h
theorem aj.trans {H H1 H2 : Hp} (a : aj H H1) (b : aj H1 H2) : aj H H2 := fun c o h => b c o (a c o h)
theorem aj.free {H H' : Hp} (e : aj H H') {l : Addr} (h : H' l = Option.none) : H l = Option.none := by
 cases q : H l with
 | none => rfl
 | some o =>
  rw [e l o q] at h
  cases h
theorem aj.seq {K : PySem.W.Frag} {H H' : Hp} {a : Addr} {xs : List V} (e : aj H H') (h : ai K H a xs) : ai K H' a xs := by
 rcases h with (h | ⟨o, h⟩) | h
 ·exact .inl (.inl (e _ _ h))
 ·exact .inl (.inr ⟨o, e _ _ h⟩)
 ·exact .inr h
end L2
namespace L2
open PySem PySem.Spec PyProof.Rows
section
variable {κ : Type} [DecidableEq κ]
noncomputable def aY (kvs : List (κ × V)) (k : κ) : Option V := (kvs.find? fun kv => decide (kv.1 = k)).map (·.2)
noncomputable def putK (kvs : List (κ × V)) (k : κ) (v : V) : List (κ × V) :=
 if (kvs.any fun kv => decide (kv.1 = k)) = true then kvs.map (fun kv => if kv.1 = k then (kv.1, v) else kv) else kvs ++ [(k, v)]
noncomputable def eE (kvs : List (κ × V)) (k : κ) : List (κ × V) := kvs.filter fun kv => decide (kv.1 ≠ k)
theorem eF {p : κ × V} {r : List (κ × V)} {k : κ} (e : p.1 = k) : aY (p :: r) k = some p.2 := by simp [aY, List.find?_cons, e]
theorem eG {p : κ × V} {r : List (κ × V)} {k : κ} (e : ¬ p.1 = k) : aY (p :: r) k = aY r k := by simp [aY, List.find?_cons, e]
theorem sr (k : κ) : ∀ kvs : List (κ × V), (kvs.any fun kv => decide (kv.1 = k)) = (aY kvs k).isSome
 | [] => rfl
 | p :: r => by
  rw [List.any_cons]
  by_cases e : p.1 = k
  ·simp only [eF e, decide_eq_true e, Bool.true_or, Option.isSome_some]
  ·rw [eG e, decide_eq_false e, Bool.false_or]; exact sr k r
theorem D3 (k j : κ) (y : V) : ∀ kvs : List (κ × V), aY (kvs.map fun kv => if kv.1 = k then (kv.1, y) else kv) j = (aY kvs j).map fun x => if j = k then y else x
 | [] => rfl
 | p :: r => by
  have ih := D3 k j y r
  rw [List.map_cons]
  by_cases h : p.1 = k
  ·rw [if_pos h]
   by_cases e : p.1 = j
   ·rw [eF (p := (p.1, y)) e, eF e, Option.map_some, if_pos (e.symm.trans h)]
   ·rw [eG (p := (p.1, y)) e, eG e, ih]
  ·rw [if_neg h]
   by_cases e : p.1 = j
   ·rw [eF (p := p) e, eF e, Option.map_some, if_neg (fun z => h (e.trans z))]
   ·rw [eG (p := p) e, eG e, ih]
theorem D4 (k j : κ) (y : V) : ∀ kvs : List (κ × V), aY kvs k = none -> aY (kvs ++ [(k, y)]) j = if j = k then some y else aY kvs j
 | [], _ => by
  by_cases e : k = j
  ·rw [if_pos e.symm]; exact eF (p := (k, y)) e
  ·rw [if_neg (fun z => e z.symm)]; exact eG (p := (k, y)) e
 | p :: r, hn => by
  rw [List.cons_append]
  have hk : ¬ p.1 = k := fun z => by rw [eF z] at hn; cases hn
  rw [eG hk] at hn
  have ih := D4 k j y r hn
  by_cases e : p.1 = j
  ·rw [eF e, eF e, if_neg (fun z => hk (e.trans z))]
  ·rw [eG e, eG e, ih]
theorem KG (kvs : List (κ × V)) (k j : κ) (y : V) : aY (putK kvs k y) j = if j = k then some y else aY kvs j := by
 unfold putK
 by_cases a : (kvs.any fun kv => decide (kv.1 = k)) = true
 ·rw [if_pos a, D3]
  rw [sr] at a
  by_cases e : j = k
  ·obtain ⟨x, hx⟩ := Option.isSome_iff_exists.mp a
   rw [if_pos e, e, hx, Option.map_some, if_pos rfl]
  ·rw [if_neg e]
   cases aY kvs j with
   | none => rfl
   | some x => rw [Option.map_some, if_neg e]
 ·rw [if_neg a]
  refine D4 k j y kvs ?_
  rw [sr] at a
  cases q : aY kvs k with
  | none => rfl
  | some x => rw [q] at a; exact (a rfl).elim
theorem D5 (kvs : List (κ × V)) (k : κ) (v : V) : (putK kvs k v).length <= kvs.length + 1 := by
 unfold putK
 split
 ·rw [List.length_map]; omega
 ·rw [List.length_append, List.length_cons, List.length_nil]; omega
theorem cz.pE {o : Option V} {u : Option Value} (r : cz o u) : o.isSome = u.isSome := by
 cases o with
 | none => cases u with
  | none => rfl
  | some _ => exact (show False from r).elim
 | some _ => cases u with
  | none => exact (show False from r).elim
  | some _ => rfl
theorem cz.getD {o : Option V} {u : Option Value} {d : V} {d' : Value} (r : cz o u) (rd : RelV d d') : RelV (o.getD d) (u.getD d') := by
 cases o with
 | none => cases u with
  | none => exact rd
  | some _ => exact (show False from r).elim
 | some _ => cases u with
  | none => exact (show False from r).elim
  | some _ => exact r
theorem KV.val {kvs : List (κ × V)} {vs : List (κ × Value)} (r : KV kvs vs) (k : κ) : cz (aY kvs k) (valueAt vs k) := by
 unfold KV at r
 induction r with
 | nil => exact True.intro
 | @cons p q ps qs h t ih =>
  obtain ⟨h1, h2⟩ := h
  by_cases e : p.1 = k
  ·have e' : q.1 = k := h1.symm.trans e
   have b : valueAt (q :: qs) k = some q.2 := by simp [valueAt, List.find?_cons, e']
   rw [eF e, b]; exact h2
  ·have e' : ¬ q.1 = k := fun z => e (h1.trans z)
   have b : valueAt (q :: qs) k = valueAt qs k := by simp [valueAt, List.find?_cons, e']
   rw [eG e, b]; exact ih
theorem KV.any {kvs : List (κ × V)} {vs : List (κ × Value)} (r : KV kvs vs) (k : κ) : (kvs.any fun kv => decide (kv.1 = k)) = vs.any fun kv => decide (kv.1 = k) := by
 unfold KV at r
 induction r with
 | nil => rfl
 | cons h t ih => rw [List.any_cons, List.any_cons, ih, h.1]
theorem KV.lJ {kvs : List (κ × V)} {vs : List (κ × Value)} (r : KV kvs vs) (k : κ) {y : V} {u : Value} (ry : RelV y u) :
 KV (kvs.map fun kv => if kv.1 = k then (kv.1, y) else kv) (vs.map fun kv => if kv.1 = k then (kv.1, u) else kv) := by
 unfold KV at r ⊢
 induction r with
 | nil => exact .nil
 | @cons p q ps qs h t ih =>
  rw [List.map_cons, List.map_cons]
  refine .cons ?_ ih
  obtain ⟨h1, h2⟩ := h
  by_cases e : p.1 = k
  ·rw [if_pos e, if_pos (h1.symm.trans e)]; exact ⟨h1, ry⟩
  ·rw [if_neg e, if_neg (fun z => e (h1.trans z))]; exact ⟨h1, h2⟩
theorem KV.put {kvs : List (κ × V)} {vs : List (κ × Value)} (r : KV kvs vs) (k : κ) {y : V} {u : Value} (ry : RelV y u) : KV (putK kvs k y) (stored vs k u) := by
 unfold putK stored
 rw [r.any k]
 by_cases e : (vs.any fun kv => decide (kv.1 = k)) = true
 ·rw [if_pos e, if_pos e]; exact r.lJ k ry
 ·rw [if_neg e, if_neg e]; exact Paired.snoc r ⟨rfl, ry⟩
theorem KV.drop {kvs : List (κ × V)} {vs : List (κ × Value)} (r : KV kvs vs) (k : κ) : KV (eE kvs k) (without vs k) := by
 unfold KV at r ⊢
 unfold eE without
 induction r with
 | nil => exact .nil
 | @cons p q ps qs h t ih =>
  obtain ⟨h1, h2⟩ := h
  rw [List.filter_cons, List.filter_cons]
  by_cases e : p.1 = k
  ·have a : ¬ decide (p.1 ≠ k) = true := by simp [e]
   have b : ¬ decide (q.1 ≠ k) = true := by simp [h1.symm.trans e]
   rw [if_neg a, if_neg b]; exact ih
  ·have e' : ¬ q.1 = k := fun z => e (h1.trans z)
   have a : decide (p.1 ≠ k) = true := by simp [e]
   have b : decide (q.1 ≠ k) = true := by simp [e']
   rw [if_pos a, if_pos b]; exact .cons ⟨h1, h2⟩ ih
theorem KV.length {kvs : List (κ × V)} {vs : List (κ × Value)} (r : KV kvs vs) : kvs.length = vs.length := Paired.length r
theorem KH (kvs : List (κ × V)) (k : κ) : (eE kvs k).length <= kvs.length := List.length_filter_le _ _
end
theorem pF {P : Program} {w : World} {k : Key} {u : Value} (r : RelV (kV k) u) : (cS P w).is k u = true := by
 cases k with
 | inl i => obtain ⟨t, e⟩ := (show ∃ t, u = Value.int i t from r); subst e; exact Jk P w i t
 | inr x => obtain ⟨t, e⟩ := (show ∃ t, u = Value.str x t from r); subst e; exact Jl P w x t
theorem D6 {P : Program} {w : World} : ∀ {ks : List Key} {us : List Value}, Vals (ks.map kV) us -> ItemsAre (cS P w) ks us
 | [], _, r => by rw [List.map_nil] at r; cases r; exact .nil
 | k :: ks, _, r => by
  rw [List.map_cons] at r
  cases r with
  | cons h t => exact .cons (pF h) (D6 t)
noncomputable abbrev KT (H : Hp) : List (List Key × V) -> List (List Key × Addr × Value) -> Prop := Paired fun p q => p.1 = q.1 /\ H q.2.1 = some (.tup (p.1.map kV)) /\ RelV p.2 q.2.2
theorem KT.val {H : Hp} {kvs : List (List Key × V)} {xs : List (List Key × Addr × Value)} (r : KT H kvs xs) (k : List Key) : cz (aY kvs k) ((atKey xs k).map (·.2)) := by
 induction r with
 | nil => exact True.intro
 | @cons p q ps qs h t ih =>
  obtain ⟨h1, _, h2⟩ := h
  by_cases e : p.1 = k
  ·have e' : q.1 = k := h1.symm.trans e
   have b : atKey (q :: qs) k = some q.2 := by simp [atKey, List.find?_cons, e']
   rw [eF e, b]; exact h2
  ·have e' : ¬ q.1 = k := fun z => e (h1.trans z)
   have b : atKey (q :: qs) k = atKey qs k := by simp [atKey, List.find?_cons, e']
   rw [eG e, b]; exact ih
theorem KT.lJ {H : Hp} {kvs : List (List Key × V)} {xs : List (List Key × Addr × Value)} (r : KT H kvs xs) (k : List Key) {y : V} {u : Value} (ry : RelV y u) :
 KT H (kvs.map fun kv => if kv.1 = k then (kv.1, y) else kv) (xs.map (putAt k u)) := by
 induction r with
 | nil => exact .nil
 | @cons p q ps qs h t ih =>
  rw [List.map_cons, List.map_cons]
  refine .cons ?_ ih
  obtain ⟨h1, h2, h3⟩ := h
  unfold putAt
  by_cases e : p.1 = k
  ·rw [if_pos e, if_pos (h1.symm.trans e)]; exact ⟨h1, h2, ry⟩
  ·rw [if_neg e, if_neg (fun z => e (h1.trans z))]; exact ⟨h1, h2, h3⟩
theorem KT.put {H : Hp} {kvs : List (List Key × V)} {xs : List (List Key × Addr × Value)} (r : KT H kvs xs) (k : List Key) {b : Addr} {y : V} {u : Value} (hb : H b = some (.tup (k.map kV))) (ry : RelV y u) :
 KT H (putK kvs k y) (storedH xs k b u) := by
 have e : (kvs.any fun kv => decide (kv.1 = k)) = (atKey xs k).isSome := by
  rw [sr, (r.val k).pE, Option.isSome_map]
 unfold putK storedH
 rw [e]
 by_cases q : (atKey xs k).isSome = true
 ·rw [if_pos q, if_pos q]; exact r.lJ k ry
 ·rw [if_neg q, if_neg q]; exact Paired.snoc r ⟨rfl, hb, ry⟩
theorem KT.keeps {H H' : Hp} {kvs : List (List Key × V)} {xs : List (List Key × Addr × Value)} (r : KT H kvs xs) (ht : ∀ b ys, H b = some (.tup ys) -> H' b = some (.tup ys)) : KT H' kvs xs :=
 Paired.xB r fun _ _ z => ⟨z.1, ht _ _ z.2.1, z.2.2⟩
section
variable {P : Program} {w : World} {H : Hp} {h : Heap} {a : Addr}
theorem D7 {u : HO} (ok : bh P w H h) (e : Rd H a u) : bb P w H h a u := e.ok ok
theorem lK {kvs : List (Key × V)} (ok : bh P w H h) (e : Rd H a (.dK kvs)) : kvs.length <= sizeLine /\ (a == sysModules) = false /\ ∃ vs, KV kvs vs /\ h.DictOf (cS P w) a vs :=
 show bb P w H h a (.dK kvs) from D7 ok e
theorem KI {kvs : List (Key × V)} (ok : bh P w H h) (e : H a = some (.dK kvs)) : kvs.length <= sizeLine /\ (a == sysModules) = false /\ ∃ vs, KV kvs vs /\ h.DictOf (cS P w) a vs := lK ok (.inl e)
theorem lL {ks : List Key} (ok : bh P w H h) (e : H a = some (.tup (ks.map kV))) : (tupleKind (cS P w)).is h ks a := by
 obtain ⟨_, af, r, o, h1, h2, n, h3⟩ := (show bb P w H h a (.tup (ks.map kV)) from ok a _ e)
 exact ⟨o, af.toArray, n, h1, h2, h3, by simpa using D6 r⟩
theorem lM {kvs : List (List Key × V)} (ok : bh P w H h) (e : Rd H a (.dT kvs)) : kvs.length <= sizeLine /\ (a == sysModules) = false /\
 ∃ xs, KT H kvs xs /\ h.DictOfH (tupleKind (cS P w)) a xs := by
 obtain ⟨z, y, xs, r, o, es, ep, h1, h2, h3, h4, h5⟩ := (show bb P w H h a (.dT kvs) from D7 ok e)
 refine ⟨z, y, xs, r, o, es, ep, h1, h2, h3, h4, fun x hx => ?_, h5⟩
 have all : ∀ {l : List (List Key × V)} {m : List (List Key × Addr × Value)}, KT H l m -> ∀ x ∈ m, (tupleKind (cS P w)).is h x.1 x.2.1 := by
  intro l m q
  induction q with
  | nil => intro x hx; exact nomatch hx
  | @cons p q ps qs hq t ih =>
   intro x hx
   rcases List.mem_cons.mp hx with e | hx
   ·subst e
    exact lL ok (by rw [<- hq.1]; exact hq.2.1)
   ·exact ih x hx
 exact all r x hx
theorem su {kvs : List (List Key × V)} (ok : bh P w H h) (e : H a = some (.dT kvs)) : kvs.length <= sizeLine /\ (a == sysModules) = false /\
 ∃ xs, KT H kvs xs /\ h.DictOfH (tupleKind (cS P w)) a xs := lM ok (.inl e)
end
noncomputable def bA (H : Hp) (a : Addr) (y : V) (r : Option V) : Prop :=
 (∃ kvs k, Rd H a (.dK kvs) /\ y = kV k /\ r = aY kvs k) ∨ ∃ kvs k b, Rd H a (.dT kvs) /\ y = .ref b /\ H b = some (.tup (k.map kV)) /\ r = aY kvs k
noncomputable def eI (H : Hp) (a : Addr) (y v : V) (H' : Hp) : Prop :=
 (∃ kvs k, H a = some (.dK kvs) /\ y = kV k /\ kvs.length < sizeLine /\ H' = upd H a (.dK (putK kvs k v))) ∨
 ∃ kvs k b, H a = some (.dT kvs) /\ y = .ref b /\ H b = some (.tup (k.map kV)) /\ kvs.length < sizeLine /\ H' = upd H a (.dT (putK kvs k v))
theorem bA.k {H : Hp} {a : Addr} {kvs : List (Key × V)} {k : Key} (e : H a = some (.dK kvs)) : bA H a (kV k) (aY kvs k) := .inl ⟨kvs, k, .inl e, rfl, rfl⟩
theorem bA.t {H : Hp} {a b : Addr} {kvs : List (List Key × V)} {k : List Key} (e : H a = some (.dT kvs)) (eb : H b = some (.tup (k.map kV))) : bA H a (.ref b) (aY kvs k) := .inr ⟨kvs, k, b, .inl e, rfl, eb, rfl⟩
theorem eI.k {H : Hp} {a : Addr} {kvs : List (Key × V)} {k : Key} {v : V} (e : H a = some (.dK kvs)) (hl : kvs.length < sizeLine) : eI H a (kV k) v (upd H a (.dK (putK kvs k v))) := .inl ⟨kvs, k, e, rfl, hl, rfl⟩
theorem eI.t {H : Hp} {a b : Addr} {kvs : List (List Key × V)} {k : List Key} {v : V} (e : H a = some (.dT kvs)) (eb : H b = some (.tup (k.map kV))) (hl : kvs.length < sizeLine) :
 eI H a (.ref b) v (upd H a (.dT (putK kvs k v))) := .inr ⟨kvs, k, b, e, rfl, eb, hl, rfl⟩
section
variable {X : Cx} {pins : List (Addr × Obj)} {σ : St} {H : Hp} {s : Shared} {a : Addr} {y v : V} {u r : Value} {o : Option V} {A : Around} {E : Value -> Shared -> Prop}
theorem KJ {Q : Value -> Shared -> Prop} (hu : A.units + 1 < cLine) (I : Inv X pins σ H s) (g : bA H a y (some v)) (ry : RelV y u) (h : ∀ w' s', Inv X pins σ H s' -> RelV v w' -> Q w' s') :
 wpAny (model X.prog X.w) A (getItem (.ref a) u) Q E s := by
 rcases g with ⟨kvs, k, e, ey, l⟩ | ⟨kvs, k, b, e, ey, eb, l⟩
 ·subst ey
  obtain ⟨z, hd, vs, rel, dd⟩ := lK I.ag e
  obtain ⟨w', hw, fh⟩ := cz.some_of (v := v) (o := valueAt vs k) (by rw [l]; exact rel.val k)
  exact wpAny_getItem_of (pF ry) dd.mapOf hw (h w' _ (I.tok _) fh)
 ·subst ey
  cases (show u = Value.ref b from ry)
  obtain ⟨z, hd, xs, rel, dd⟩ := lM I.ag e
  obtain ⟨w', hw, fh⟩ := cz.some_of (v := v) (o := (atKey xs k).map (·.2)) (by rw [l]; exact rel.val k)
  obtain ⟨p, hp, jM⟩ := Option.map_eq_some_iff.mp hw
  refine wpAny_getItem_heap (tupleKind_room_in1 hu) (lL I.ag eb) dd hp ?_
  rw [jM]
  exact h w' _ (I.tok _) fh
theorem KL {Q : Value -> Shared -> Prop} (hu : A.units + 1 < cLine) (I : Inv X pins σ H s) (g : bA H a y o) (ry : RelV y u) (h : ∀ s', Inv X pins σ H s' -> Q (.bool o.isSome) s') :
 wpAny (model X.prog X.w) A (compareOp .In u (.ref a)) Q E s := by
 rcases g with ⟨kvs, k, e, ey, l⟩ | ⟨kvs, k, b, e, ey, eb, l⟩
 ·subst ey
  obtain ⟨z, hd, vs, rel, dd⟩ := lK I.ag e
  refine wpAny_in_of (pF ry) hd dd.mapOf ?_
  rw [<- (rel.val k).pE, <- l]
  exact h _ (I.tok _)
 ·subst ey
  cases (show u = Value.ref b from ry)
  obtain ⟨z, hd, xs, rel, dd⟩ := lM I.ag e
  refine wpAny_in_heap (tupleKind_room_in1 hu) (lL I.ag eb) hd dd ?_
  have q := (rel.val k).pE
  rw [Option.isSome_map] at q
  rw [<- q, <- l]
  exact h _ (I.tok _)
theorem KN {Q : Value -> Shared -> Prop} (hu : A.units + 1 < cLine) (I : Inv X pins σ H s) (g : bA H a y o) (ry : RelV y u) (h : ∀ s', Inv X pins σ H s' -> Q (.bool (!o.isSome)) s') :
 wpAny (model X.prog X.w) A (compareOp .NotIn u (.ref a)) Q E s := by
 rcases g with ⟨kvs, k, e, ey, l⟩ | ⟨kvs, k, b, e, ey, eb, l⟩
 ·subst ey
  obtain ⟨z, hd, vs, rel, dd⟩ := lK I.ag e
  refine wpAny_notIn_of (pF ry) hd dd.mapOf ?_
  rw [<- (rel.val k).pE, <- l]
  exact h _ (I.tok _)
 ·subst ey
  cases (show u = Value.ref b from ry)
  obtain ⟨z, hd, xs, rel, dd⟩ := lM I.ag e
  refine wpAny_notIn_heap (tupleKind_room_in1 hu) (lL I.ag eb) hd dd ?_
  have q := (rel.val k).pE
  rw [Option.isSome_map] at q
  rw [<- q, <- l]
  exact h _ (I.tok _)
theorem x5 {h' : Heap} {t' : Nat} {ob : HO} (I : Inv X pins σ H s) (mu : ox (H a)) (hs : Heap.SameBut a s.heap h') (he : ∃ q, h'.get? a = some q) (new : bb X.prog X.w (upd H a ob) h' a ob) :
 Inv X pins σ (upd H a ob) { s with heap := h', toks := t' } :=
 I.write (x := a) (e := a) mu (.inl rfl) (fun b q hb z => (hs.2 b hb).trans z) he new
theorem D8 {P : Program} {w : World} {H' : Hp} {h' : Heap} {kvs : List (Key × V)} {vs : List (Key × Value)} (z : kvs.length <= sizeLine) (hd : (a == sysModules) = false) (rel : KV kvs vs) (dd : h'.DictOf (cS P w) a vs) :
 bb P w H' h' a (.dK kvs) := ⟨z, hd, vs, rel, dd⟩
theorem KO {H' : Hp} {Q : Unit -> Shared -> Prop} (hu : A.units + 1 < cLine) (I : Inv X pins σ H s) (g : eI H a y v H') (ry : RelV y u) (rv : RelV v r) (h : ∀ s', Inv X pins σ H' s' -> Q () s') :
 wpAny (model X.prog X.w) A (setItem (.ref a) u r) Q E s := by
 rcases g with ⟨kvs, k, e, ey, l, eH⟩ | ⟨kvs, k, b, e, ey, eb, l, eH⟩
 ·subst ey eH
  obtain ⟨z, hd, vs, rel, dd⟩ := KI I.ag e
  have hz : vs.length <= sizeLine := by rw [<- rel.length]; exact z
  have hl : (putK kvs k v).length <= sizeLine := by have := D5 kvs k v; omega
  refine wpAny_setItem_pairs (hsz := hz) (pF ry) dd fun h' jN hs => h _ ?_
  have he : ∃ q, h'.get? a = some q := let ⟨q, _, _, hq, _⟩ := jN; ⟨q, hq⟩
  exact x5 I (by rw [e]; exact True.intro) hs he (D8 hl hd (rel.put k rv) jN)
 ·subst ey eH
  cases (show u = Value.ref b from ry)
  obtain ⟨z, hd, xs, rel, dd⟩ := su I.ag e
  have hz : xs.length <= sizeLine := by rw [<- Paired.length rel]; exact z
  have hl : (putK kvs k v).length <= sizeLine := by have := D5 kvs k v; omega
  refine wpAny_setItem_heap (hsz := hz) (tupleKind_room_in1 hu) (lL I.ag eb) dd fun h' jN hs => h _ ?_
  obtain ⟨q, es, ep, hq, h2, h3, h4, _, h5⟩ := jN
  refine x5 I (by rw [e]; exact True.intro) hs ⟨q, hq⟩ ⟨hl, hd, _, (rel.put k eb rv).keeps fun c ys ec => ?_, q, es, ep, hq, h2, h3, h4, h5⟩
  rw [ay (xA ec e (fun z => nomatch z))]
  exact ec
end
section
variable {X : Cx} {pins : List (Addr × Obj)} {σ : St} {H : Hp} {s : Shared} {a : Addr} {kvs : List (Key × V)} {k : Key} {u : Value} {A : Around} {E : Value -> Shared -> Prop}
end
noncomputable def x6 (i : Expr) : Prop := ∀ ov iv, subscripted i false ov iv = operate [ov, iv] (getItem ov iv)
theorem KP {prog : Program} {w : World} {A : Around} {E : Value -> Shared -> Prop} {s : Shared} {env : Env} {value slice : Expr} {pos : Pos} {T id : String} {Q : Value -> Shared -> Prop}
 (hl : typeLookup (.type T) "__getitem__" = pure (some (.builtin id))) (hs : x6 slice)
 (h : wpAny (model prog w) A (eval value env) (fun o s₁ => wpAny (model prog w) A (eval slice env) (fun i s₂ => s₂.TypeIs o T /\ wpAny (model prog w) A (getItem o i) Q E s₂) E s₁) E s) :
 wpAny (model prog w) A (eval (.Subscript value slice pos) env) Q E s := by
 refine Subscript_ (wpAny_mono h (fun o s₁ h₁ => wpAny_mono h₁ (fun i s₂ h₂ => ?_) fun _ _ x => x) fun _ _ x => x)
 obtain ⟨hT, h₂⟩ := h₂
 unfold subscriptTail
 refine wpAny_bind ?_
 rw [getitemInPython_of_ne hT.not_modules]
 refine wpAny_bind (wpAny_specialOf hT hl ?_)
 have fin : wpAny (model prog w) A (subscripted slice false o i) (fun r s₃ => wpAny (model prog w) A (letTemporaryGo value o r >>= fun _ => pure r) Q E s₃) E s₂ := by
  rw [hs o i]
  exact wpAny_operating (wpAny_mono h₂ (fun r s₃ h₃ => wpAny_bind (wpAny_letTemporaryGo (wpAny_pure h₃))) fun _ _ x => x)
 first
  | exact wpAny_pure (wpAny_bind fin)
  | exact wpAny_bind (wpAny_pure (wpAny_bind fin))
  | exact wpAny_bind fin
theorem KQ {X : Cx} {pins : List (Addr × Obj)} {σ : St} {H : Hp} {s : Shared} {a : Addr} {y : V} {o : Option V} (I : Inv X pins σ H s) (g : bA H a y o) : s.TypeIs (.ref a) "dict" := by
 rcases g with ⟨kvs, k, e, _, _⟩ | ⟨kvs, k, b, e, _, _, _⟩
 ·obtain ⟨_, _, vs, _, dd⟩ := lK I.ag e
  exact dd.typeIs
 ·obtain ⟨_, _, xs, _, dd⟩ := lM I.ag e
  exact dd.typeIs
noncomputable def lN (td ty : TE) : TE := fun σ H Q => td σ H fun x H1 => ty σ H1 fun y H2 => ∃ a v, x = .ref a /\ bA H2 a y (some v) /\ Q v H2
noncomputable def pG (ty td : TE) : TE := fun σ H Q => ty σ H fun y H1 => td σ H1 fun x H2 => ∃ a o, x = .ref a /\ bA H2 a y o /\ Q (.bl o.isSome) H2
noncomputable def pH (ty td : TE) : TE := fun σ H Q => ty σ H fun y H1 => td σ H1 fun x H2 => ∃ a o, x = .ref a /\ bA H2 a y o /\ Q (.bl (!o.isSome)) H2
noncomputable def pI (td ty tv : TE) : TS := fun D σ H => tv σ H fun v H1 => td σ H1 fun x H2 => ty σ H2 fun y H3 => ∃ a H4, x = .ref a /\ eI H3 a y v H4 /\ D.nx σ H4
section
variable {X : Cx} {o i e value : Expr} {pos pos' J0 : Pos} {td ty tv : TE}
theorem jO (hu : X.A.units + 1 < cLine) (ho : PE X o td) (hi : PE X i ty) (hs : x6 i) : PE X (.Subscript o i pos) (lN td ty) := by
 intro pins s σ H Q I h
 refine KP PySem.F.slot_dict_getitem.lookup hs (aq (ho pins s σ H _ I h) fun u s1 ⟨x, H1, I1, rx, q1⟩ => aq (hi pins s1 σ H1 _ I1 q1) fun iv s2 ⟨y, H2, I2, ry, a, v, ex, g, q2⟩ => ?_)
 subst ex
 obtain rfl : u = Value.ref a := rx
 exact ⟨KQ I2 g, KJ hu I2 g ry fun w' s3 I3 fh => ⟨v, H2, I3, fh, q2⟩⟩
theorem KR (hu : X.A.units + 1 < cLine) (hi : PE X i ty) (ho : PE X o td) : PC X .In i o (pG ty td) := by
 intro pins s σ H Q I h
 refine aq (hi pins s σ H _ I h) fun iv s1 ⟨y, H1, I1, ry, q1⟩ => aq (ho pins s1 σ H1 _ I1 q1) fun u s2 ⟨x, H2, I2, rx, a, ov, ex, g, q2⟩ => ?_
 subst ex
 obtain rfl : u = Value.ref a := rx
 exact KL hu I2 g ry fun s3 I3 => ⟨.bl ov.isSome, H2, I3, rfl, q2⟩
theorem KS (hu : X.A.units + 1 < cLine) (hi : PE X i ty) (ho : PE X o td) : PC X .NotIn i o (pH ty td) := by
 intro pins s σ H Q I h
 refine aq (hi pins s σ H _ I h) fun iv s1 ⟨y, H1, I1, ry, q1⟩ => aq (ho pins s1 σ H1 _ I1 q1) fun u s2 ⟨x, H2, I2, rx, a, ov, ex, g, q2⟩ => ?_
 subst ex
 obtain rfl : u = Value.ref a := rx
 exact KN hu I2 g ry fun s3 I3 => ⟨.bl (!ov.isSome), H2, I3, rfl, q2⟩
theorem sx (hu : X.A.units + 1 < cLine) (ho : PE X o td) (hi : PE X i ty) (hv : PE X value tv) (hs : swapsWith value (some (.Subscript o i pos')) pos.line X.env = pure false) :
 PS X (.Assign [.Subscript o i pos'] value pos) (pI td ty tv) := by
 intro pins s σ H D I h
 refine wpAny_Assign_Subscript (aq (hv pins s σ H _ I h) fun r s1 ⟨v, H1, I1, rv, q1⟩ => aq (ho pins s1 σ H1 _ I1 q1) fun u s2 ⟨x, H2, I2, rx, q2⟩ => aq (hi pins s2 σ H2 _ I2 q2) fun iv s3 ⟨y, H3, I3, ry, a, H4, ex, g, q3⟩ => ?_) hs
 subst ex
 obtain rfl : u = Value.ref a := rx
 exact KO hu I3 g ry rv fun s4 I4 => ⟨σ, H4, I4, q3⟩
end
section
variable {X : Cx} {pos : Pos}
end
structure M1 (X : Cx) (o : Expr) (m : Str) (apos : Pos) (e : Expr) (bY : Pos) : Prop where
 base : attributeBase o m X.env (eval o X.env) = eval o X.env
 few : ((backTo bY (starEach [e] X.env)).all (fun x => !x.1) && (backToKw bY (keywordEach [] X.env)).all (fun x => x.1.isSome)
  && decide (([e] : List Expr).length + ([] : List Keyword).length + (if ([] : List Keyword).isEmpty then 0 else 1) < 30)) = true
 line : (apos.endLine == bY.line) = true
 trees : backTo bY (starEach [e] X.env) = [(false, eval e X.env)]
noncomputable def sy (H : Hp) (a : Addr) : Prop := (∃ kvs, Rd H a (.dK kvs)) ∨ ∃ kvs, Rd H a (.dT kvs)
theorem KU {X : Cx} {pins : List (Addr × Obj)} {σ : St} {H : Hp} {s : Shared} {a : Addr} (I : Inv X pins σ H s) (d : sy H a) :
 s.TypeIs (.ref a) "dict" /\ (∀ b, Value.ref a = .ref b -> ∃ ob, s.heap.get? b = some ob /\ ob.dict = none) /\ (a == sysModules) = false := by
 rcases d with ⟨kvs, e⟩ | ⟨kvs, e⟩
 ·obtain ⟨_, hd, vs, _, dd⟩ := lK I.ag e
  refine ⟨dd.typeIs, fun b q => ?_, hd⟩
  cases q
  obtain ⟨ob, _, _, h1, h2, _⟩ := dd
  exact ⟨ob, h1, h2.2.1⟩
 ·obtain ⟨_, hd, xs, _, dd⟩ := lM I.ag e
  refine ⟨dd.typeIs, fun b q => ?_, hd⟩
  cases q
  obtain ⟨ob, _, _, h1, h2, _⟩ := dd
  exact ⟨ob, h1, h2.2.1⟩
section
variable {X : Cx} {pins : List (Addr × Obj)} {σ : St} {H : Hp} {s : Shared} {a : Addr} {y d : V} {u r : Value} {o : Option V} {A : Around} {E : Value -> Shared -> Prop}
end
noncomputable def sA (td ty : TE) : TE := fun σ H Q => td σ H fun x H1 => ∃ a, x = .ref a /\ sy H1 a /\ ty σ H1 fun y H2 => ∃ o, bA H2 a y o /\ Q (o.getD .non) H2
section
variable {X : Cx} {o e f : Expr} {apos bY : Pos} {td ty tx : TE}
end
section
variable {X : Cx} {pins : List (Addr × Obj)} {σ : St} {H : Hp} {s : Shared} {a : Addr} {kvs : List (Key × V)} {A : Around} {E : Value -> Shared -> Prop}
end
section
variable {X : Cx} {pins : List (Addr × Obj)} {σ : St} {H : Hp} {s : Shared} {a : Addr} {y : V} {u : Value} {A : Around} {E : Value -> Shared -> Prop}
end
end L2
namespace L2
open PySem PySem.Spec PyProof.Rows
section
variable {κ : Type} [DecidableEq κ]
theorem D9 : ∀ {l : List κ} {k : κ}, l.Nodup -> ¬ k ∈ l -> (l ++ [k]).Nodup
 | [], k, _, _ => by simp
 | a :: r, k, h, hk => by
  obtain ⟨h1, h2⟩ := List.nodup_cons.mp h
  show (a :: (r ++ [k])).Nodup
  refine List.nodup_cons.mpr ⟨fun m => ?_, D9 h2 fun m => hk (List.mem_cons.mpr (Or.inr m))⟩
  rcases List.mem_append.mp m with q | q
  ·exact h1 q
  ·exact hk (List.mem_cons.mpr (Or.inl (List.mem_singleton.mp q).symm))
end
end L2
namespace Gz
open PySem PySem.Spec PyProof.Rows L2
noncomputable def Bd (n : Nat) (x : Int) : Prop := x.natAbs < 2 ^ n
theorem Bd.of {n : Nat} {x : Int} (h1 : -((2 ^ n : Nat) : Int) < x) (h2 : x < ((2 ^ n : Nat) : Int)) : Bd n x := by
 unfold Bd; omega
theorem Bd.up {n m : Nat} {x : Int} (h : Bd n x) (hm : n <= m) : Bd m x := Nat.lt_of_lt_of_le h (Nat.pow_le_pow_right (by decide) hm)
theorem Bd.bits {n : Nat} {x : Int} (h : Bd n x) : Builtin.Int.intBits x <= n := by
 unfold Builtin.Int.intBits
 by_cases e : x = 0
 ·subst e; simp
 ·have e0 : ¬ ((x == 0) = true) := by simpa using e
  rw [if_neg e0]
  have hn : x.natAbs ≠ 0 := by omega
  have := (Nat.log2_lt hn).mpr h
  omega
noncomputable def pJ (i j : Int) : Prop := Bd 4000 i /\ Bd 4000 j
theorem pJ.ok {i j : Int} (h : pJ i j) : IntMulOk i j :=
 IntMulOk.of_bits (Nat.le_trans h.1.bits (by decide)) (Nat.le_trans h.2.bits (by decide))
section
variable {X : Cx}
theorem eJ : bW X (binaryOp .Mult) (rI pJ fun i j => .int (i * j)) := rZ fun _ _ _ _ _ _ _ hc q => mul_int q hc.ok
noncomputable def pK : V -> Value
 | .ref a => .ref a
 | .ty n => .type n
 | _ => .none
theorem KW : eg X (.builtin "isinstance") (fun xs H Q => ∃ x c t b, xs = [x, c] /\ b5 X.K H x t /\ pK c ≠ .none /\ PySem.W.kitOne X.K t (pK c) = some b /\ Q (.bl b) H) := by
 intro pins s σ H xs us Q I r h
 obtain ⟨x, c, t, b, rfl, ty, hc, e, q⟩ := h
 obtain ⟨u, v, rfl, rx, rc⟩ := vals2 r
 have ev : v = pK c := by
  cases c with
  | ref a => exact rc
  | ty n => exact rc
  | non => exact absurd rfl hc
  | bl _ => exact absurd rfl hc
  | int _ => exact absurd rfl hc
  | str _ => exact absurd rfl hc
  | byt _ => exact absurd rfl hc
  | flt _ => exact absurd rfl hc
 subst ev
 exact J1 I rx ty e fun tk => ⟨.bl b, H, I.tok tk, rfl, q⟩
end
theorem sC {K : PySem.W.Frag} {t : Value} : PySem.W.kitOne K t t = some true := by
 unfold PySem.W.kitOne
 rw [if_pos (by simp)]
theorem sD {K : PySem.W.Frag} {a c : String} {b : Bool} (h : PySem.W.kitMeta c = true) (h2 : (PySem.fastBuiltinMro a).map (·.contains (.type c)) = some b) (h3 : (a == c) = false) : PySem.W.kitOne K (.type a) (.type c) = some b := by
 unfold PySem.W.kitOne
 have e : ¬ ((Value.type a == Value.type c) = true) := by
  simp only [beq_iff_eq, Value.type.injEq]
  simpa using h3
 rw [if_neg e]
 show (if PySem.W.kitMeta c = true then PySem.W.subIn K (.type a) (.type c) else none) = some b
 rw [if_pos h]
 exact h2
theorem KY {K : PySem.W.Frag} : PySem.W.kitOne K (.type "int") (.type "bool") = some false := sD (by decide +kernel) (by decide +kernel) (by decide)
theorem KZ {K : PySem.W.Frag} : PySem.W.kitOne K (.type "bool") (.type "int") = some true := sD (by decide +kernel) (by decide +kernel) (by decide)
theorem K0 {K : PySem.W.Frag} : PySem.W.kitOne K (.type "NoneType") (.type "int") = some false := sD (by decide +kernel) (by decide +kernel) (by decide)
theorem K1 {K : PySem.W.Frag} : PySem.W.kitOne K (.type "NoneType") (.type "tuple") = some false := sD (by decide +kernel) (by decide +kernel) (by decide)
theorem ik : bootBuiltins "len" = some (.builtin "len") := by decide +kernel
theorem jP : bootBuiltins "min" = some (.builtin "min") := by decide +kernel
theorem x8 : bootBuiltins "max" = some (.builtin "max") := by decide +kernel
theorem sE : bootBuiltins "isinstance" = some (.builtin "isinstance") := by decide +kernel
theorem sF : bootBuiltins "sorted" = some (.builtin "sorted") := by decide +kernel
theorem K2 : bootBuiltins "int" = some (.type "int") := by decide +kernel
theorem K3 : bootBuiltins "bool" = some (.type "bool") := by decide +kernel
theorem sH : bootBuiltins "list" = some (.type "list") := by decide +kernel
theorem K4 : bootBuiltins "tuple" = some (.type "tuple") := by decide +kernel
theorem K5 : bootBuiltins "enumerate" = some (.type "enumerate") := by decide +kernel
noncomputable def x9 : V -> V -> Option Bool
 | .int _, .ty n => if n = "int" then some true else if n = "bool" then some false else none
 | .bl _, .ty n => if n = "int" then some true else if n = "bool" then some true else none
 | .non, .ty n => if n = "int" then some false else if n = "tuple" then some false else none
 | _, _ => none
noncomputable def fi (K : PySem.W.Frag) (x c : V) (H : Hp) (Q : VK) : Prop := match x9 x c with
 | some b => Q (.bl b) H
 | none => ∃ t b, b5 K H x t /\ pK c ≠ .none /\ PySem.W.kitOne K t (pK c) = some b /\ Q (.bl b) H
section
variable {X : Cx}
theorem sI : eg X (.builtin "isinstance") (fun xs H Q => ∃ x c, xs = [x, c] /\ fi X.K x c H Q) := by
 intro pins s σ H xs us Q I r h
 obtain ⟨x, c, rfl, h⟩ := h
 refine KW pins s σ H _ us Q I r ?_
 cases e : x9 x c with
 | none =>
  unfold fi at h
  rw [e] at h
  obtain ⟨t, b, h1, h2, h3, h4⟩ := h
  exact ⟨x, c, t, b, rfl, h1, h2, h3, h4⟩
 | some b =>
  unfold fi at h
  rw [e] at h
  unfold x9 at e
  split at e
  ·rename_i i n
   split at e
   ·rename_i z; subst z; cases e
    exact ⟨_, _, _, _, rfl, b5.int i, (fun z => nomatch z), sC, h⟩
   ·split at e
    ·rename_i z; subst z; cases e
     exact ⟨_, _, _, _, rfl, b5.int i, (fun z => nomatch z), KY, h⟩
    ·cases e
  ·rename_i i n
   split at e
   ·rename_i z; subst z; cases e
    exact ⟨_, _, _, _, rfl, b5.bl i, (fun z => nomatch z), KZ, h⟩
   ·split at e
    ·rename_i z; subst z; cases e
     exact ⟨_, _, _, _, rfl, b5.bl i, (fun z => nomatch z), sC, h⟩
    ·cases e
  ·rename_i n
   split at e
   ·rename_i z; subst z; cases e
    exact ⟨_, _, _, _, rfl, b5.non, (fun z => nomatch z), K0, h⟩
   ·split at e
    ·rename_i z; subst z; cases e
     exact ⟨_, _, _, _, rfl, b5.non, (fun z => nomatch z), K1, h⟩
    ·cases e
  ·cases e
end
section
variable {K : PySem.W.Frag} {H : Hp} {Q : VK} {i : Int} {b : Bool} {p : Addr} {xs : List V}
theorem sJ : fi K (.int i) (.ty "int") H Q = Q (.bl true) H := rfl
theorem sL : fi K (.int i) (.ty "bool") H Q = Q (.bl false) H := rfl
theorem sM : fi K (.bl b) (.ty "int") H Q = Q (.bl true) H := rfl
theorem sN : fi K (.bl b) (.ty "bool") H Q = Q (.bl true) H := rfl
theorem sO : fi K .non (.ty "int") H Q = Q (.bl false) H := rfl
theorem sP : fi K .non (.ty "tuple") H Q = Q (.bl false) H := rfl
theorem K6 (h : H p = some (.tup xs)) (q : Q (.bl true) H) : fi K (.ref p) (.ty "tuple") H Q := ⟨_, _, b5.tup h, (fun z => nomatch z), sC, q⟩
theorem K7 (h : H p = some (.lst xs)) (q : Q (.bl true) H) : fi K (.ref p) (.ty "list") H Q := ⟨_, _, b5.lst h, (fun z => nomatch z), sC, q⟩
end
end Gz
namespace Gz
open PySem PySem.Spec PyProof.Rows L2
noncomputable def aM (P : Program) (w : World) : cK := fun outer H s E e s' =>
 ∃ (x : Addr) (cls a0 : Value) (H' : Hp) (B : Heap), e = .ref x /\ s'.os = s.os /\ AllBare s'.gens /\ Un (aN outer) [] H H' s.heap s'.heap /\
  (∀ b o, s.heap.get? b = some o -> H b = none -> b ∉ aN outer -> B.get? b = some o) /\ (∀ b o, s.heap.get? b = some o -> b ∉ aN outer -> ∃ o', B.get? b = some o') /\ bh P w H' B /\ H' x = none /\ s.heap.get? x = none /\
  Heap.FlyingW B outer x cls a0 s'.heap /\ E cls none H'
theorem aC {P : Program} {w : World} {X : Cx} : Passes (aM P w) X E0 := fun _ _ _ _ _ _ _ ⟨_, _, _, _, _, _, _, _, _, _, _, _, _, _, _, h⟩ => h.elim
theorem K8 {P : Program} {w : World} {outer : List Env} {H : Hp} {s s' : Shared} {e : Value} (h : aM P w outer H s (fun _ _ _ => False) e s') : False := by
 obtain ⟨_, _, _, _, _, _, _, _, _, _, _, _, _, _, _, h⟩ := h
 exact h
section
variable {P : Program} {w : World} {K : PySem.W.Frag} {mg : Str -> Option Value} {base : Heap}
theorem okN {x qual : Str} {st : Stmt} {f : Addr} {fd : FuncData} {N ps : List Str} {k : Nat} {sp : Sp} (F : aS K x qual st f fd) (S : aU N ps (av st)) (len : ∀ vs H Q E, sp vs H Q E -> vs.length = ps.length)
 (jK : ∀ (aD : Value) (A : Around) (outer : List Env) (s : Shared) (H : Hp) (vs : List V) (Q : VK) (E : XK), bE k (A.deeper (envOfC qual (av st) s.heap.objs.size f aD)) -> sp vs H Q E ->
   ∃ t, bo (dk (aM P w) P w K mg base N qual (av st) f aD A outer s H E).fH (aP st) t /\ t { nx := fun _ H' => Q .non H', rt := Q } (start N vs) H) : aL P w K mg base (aM P w) (k + 1) f fd ps sp := by
 obtain ⟨oc, od, kV, doc, pm, an, aD, ct, fL, rfl, lk, dh⟩ := F.ex
 refine xQ lk dh S len fun A outer s H vs Q E hr fM => ?_
 obtain ⟨t, h, q⟩ := jK aD A outer s H vs Q E hr fM
 exact ⟨t, h.fH, q⟩
end
theorem sQ (a b : Int) : jE (.int a) (.int b) = true := rfl
theorem sR (a b : Bool) : jE (.bl a) (.bl b) = true := rfl
theorem sS (a : Int) : jE (.int a) .non = true := rfl
theorem sT (a : Int) : jE .non (.int a) = true := rfl
theorem sU : jE .non .non = true := rfl
theorem ite_tt {A B : Prop} : (if true = true then A else B) = A := if_pos rfl
theorem ite_ff {A B : Prop} : (if false = true then A else B) = B := if_neg Bool.false_ne_true
end Gz
namespace Gz
open PySem PySem.Spec PyProof.Rows L2
theorem sV {CX : cK} {P : Program} {w : World} {K : PySem.W.Frag} {mg : Str -> Option Value} {base : Heap} {N : List Str} {qual : Str} {scope : Scope} {f : Addr} {cd : Value} {A : Around} {outer : List Env} {s : Shared} {H : Hp} {E : XK} :
 (dk CX P w K mg base N qual scope f cd A outer s H E).K = K := rfl
theorem sW {CX : cK} {P : Program} {w : World} {K : PySem.W.Frag} {mg : Str -> Option Value} {base : Heap} {N : List Str} {qual : Str} {scope : Scope} {f : Addr} {cd : Value} {A : Around} {outer : List Env} {s : Shared} {H : Hp} {E : XK} :
 (dk CX P w K mg base N qual scope f cd A outer s H E).N = N := rfl
section
variable {K : PySem.W.Frag} {H H' : Hp} {a p : Addr} {xs ys : List V} {i : Int} {v : V} {Q : VK}
theorem aB {o : HO} (h : H p = none) : aj H (upd H p o) := fun b u e => by rw [ay (hJ e h)]; exact e
theorem aI (h : ar K H p xs) (e : cV xs i = some v) (q : Q v H) : dc K (.ref p) (.int i) H Q := .inr (.inl ⟨p, xs, i, v, rfl, rfl, h, e, q⟩)
theorem a9 (h : ai K H p xs) (e : cV xs i = some v) (q : Q v H) : dc K (.ref p) (.int i) H Q := .inl ⟨p, xs, i, v, rfl, rfl, h, e, q⟩
theorem jQ (h : ai K H p xs) : DB K (.ref p) H xs.length := .inl ⟨xs, h, rfl⟩
end
noncomputable def isWhole : V -> Bool
 | .int _ => true
 | _ => false
end Gz
namespace Gz
open PySem PySem.Spec PyProof.Rows L2
noncomputable def FJ (J : It) (g : TG) (tb : TS) (D : Ends) (σ : L2.St) (H : Hp) : Prop := ∃ W : Nat -> Nat -> L2.St -> Hp -> Prop, (∃ m, W 0 m σ H) /\ ∀ i m σ H, W i m σ H ->
 (J.stop i H /\ D.nx σ H) ∨ (J.go i H /\ ∃ N : L2.St -> Hp -> Prop, (∀ σ' H', N σ' H' -> ∃ m', m' < m /\ W (i + 1) m' σ' H') /\ ∀ x H', J.yld i H x H' -> g x σ H' fun σ2 H2 => tb { D with nx := N, ct := N, bk := D.nx } σ2 H2)
section
variable {K : PySem.W.Frag} {g : TG} {tb : TS} {D : Ends} {σ : L2.St} {H : Hp} {a : Addr} {xs : List V} {lo : Int} {n : Nat}
theorem sX {ta : TA} : fJ (lj ta) g tb D σ H = ta σ H (fun vs H1 => ∃ j : Int, vs = [.int j] /\ -(2 ^ 62) <= j /\ j < 2 ^ 62 /\ FJ (e9 0 j.toNat) g tb D σ H1) := rfl
theorem sY {tl : TE} : fJ (lg K tl) g tb D σ H = tl σ H (fun x H1 => ∃ a, x = .ref a /\ (∃ xs, ai K H1 a xs) /\ FJ (eZ K a) g tb D σ H1) := rfl
theorem sZ {tl : TE} : fJ (lh K tl) g tb D σ H = tl σ H (fun x H1 => ∃ a, x = .ref a /\ (∃ xs, ar K H1 a xs) /\ FJ (oT K a) g tb D σ H1) := rfl
theorem tf (Pv : Nat -> L2.St -> Hp -> Prop) (h0 : Pv 0 σ H)
 (hs : ∀ i σ H, i < n -> Pv i σ H -> g (.int (lo + i)) σ H fun σ2 H2 => tb { D with nx := Pv (i + 1), ct := Pv (i + 1), bk := D.nx } σ2 H2) (hd : ∀ σ H, Pv n σ H -> D.nx σ H) : FJ (e9 lo n) g tb D σ H := JG Pv h0 hs hd
theorem lO (Pv : Nat -> L2.St -> Hp -> Prop) (h0 : Pv 0 σ H) (hl : ∀ i σ H, i <= xs.length -> Pv i σ H -> ai K H a xs)
 (hs : ∀ i x σ H, xs[i]? = some x -> Pv i σ H -> g x σ H fun σ2 H2 => tb { D with nx := Pv (i + 1), ct := Pv (i + 1), bk := D.nx } σ2 H2) (hd : ∀ σ H, Pv xs.length σ H -> D.nx σ H) : FJ (eZ K a) g tb D σ H := JF Pv h0 hl hs hd
end
theorem bQ : (2 : Nat) <= sizeLine := by decide
theorem tj {x : Int} (h : x.natAbs < 2 ^ 200) : Bd 4000 x := Bd.up (n := 200) h (by decide)
theorem Ea {x y : Int} (h : x.natAbs < 2 ^ 200) (h' : y.natAbs < 2 ^ 200) : pJ x y := ⟨tj h, tj h'⟩
end Gz
namespace Gz
open PySem PySem.Spec PyProof.Rows L2
section
variable {X : Cx}
end
section
variable {K : PySem.W.Frag} {H H1 : Hp} {l p : Addr} {xs ys : List V} {o : HO}
theorem jR (hl : H l = none) (s : aj H H1) : aj H (upd H1 l o) := fun b u e => by
 rw [ay (hJ e hl)]; exact s b u e
noncomputable def K9 (K : PySem.W.Frag) (H : Hp) (v : V) (a b : Int) : Prop := ∃ p, v = .ref p /\ ar K H p [.int a, .int b]
end
end Gz
namespace Gz
open PySem PySem.W PySem.Spec PySem.Calls PyProof.Rows Builtin Builtin.ObjectAttr Builtin.Getset_descriptor
section
variable {prog : Program} {w : World} {A : Around} {E : Value -> Shared -> Prop} {s : Shared} {K : Frag} {x C : Addr} {oe : Obj} {R : Result -> Shared -> Prop}
end
structure XC (K : Frag) (C : Addr) : Prop where
 ex : excIn K C [.type "ValueError", .type "Exception", .type "BaseException", .type "object"] "ValueError.__new__" = true
 mo : mroIn K C (.type "object") = some true
 mb : mroIn K C (.type "BaseException") = some true
 ga : findIn K (.ref C) "__getattribute__" = some (some (.builtin "BaseException.__getattribute__"))
 gr : findIn K (.ref C) "__getattr__" = some none
 gc : findIn K (.ref C) "__class__" = some (some (.builtin "object.__class__"))
theorem XC.cls {K : Frag} {C : Addr} (x : XC K C) : ∃ c d cd sl, K.lookup C = some ⟨c, d, .cls cd, sl⟩ := by
 have q := x.ex
 unfold excIn at q
 split at q
 ·rename_i dd cd sl ho
  exact ⟨_, _, _, _, ho⟩
 ·cases q
theorem La {K : Frag} {h : Heap} {C : Addr} (X : K.In h) (c : XC K C) :
 ∃ bm N nm q bs hdct sn sub ab col dd k0 k1 k2 k3 k5 mN, h.get? C = some (excClassObj nm q C N bs bm hdct sn sub ab col dd k0 k1 k2 k3 k5 "ValueError.__new__") /\ h.Ns N mN /\ mN "__init__" = none /\
  OwnTail h [.type "ValueError", .type "Exception", .type "BaseException", .type "object"] bm := by
 have q := c.ex
 unfold excIn at q
 split at q
 ·rename_i dd cd sl ho
  split at q
  ·rename_i C' bm k0 k1 k2 k3 n k5 hm hs
   simp only [Bool.and_eq_true, beq_iff_eq, Bool.not_eq_true'] at q
   obtain ⟨⟨⟨⟨⟨rfl, rfl⟩, hdel⟩, ht⟩, ag⟩, hni⟩ := q
   obtain ⟨nm, bs, mro, ns, qn, hd, sn, sub, ab, col, del⟩ := cd
   dsimp only at hm hdel ag hni
   subst hm hdel
   have tm : sl = #[k0, k1, k2, k3, some (.builtin "ValueError.__new__"), k5] := by
    obtain ⟨l⟩ := sl
    simp only at hs
    rw [hs]
   subst tm
   exact ⟨bm, ns, nm, qn, bs, hd, sn, sub, ab, col, dd, k0, k1, k2, k3, k5, _, X _ _ ho, .of_isNs (isNs_of_in X ag), nsMap_none_of_in X ag hni, tail_of_in X ht⟩
  ·cases q
 ·cases q
end Gz
namespace Gz
open PySem PySem.Spec PyProof.Rows L2
section
variable {X : Cx}
end
end Gz
namespace Gz
open PySem PySem.Spec PyProof.Rows L2
theorem bb.some {P : Program} {w : World} {H : Hp} {h : Heap} {a : Addr} {o : HO} (x : bb P w H h a o) : ∃ ob, h.get? a = some ob := by
 cases o with
 | lst xs => obtain ⟨_, _, _, _, e⟩ := x; exact ⟨_, e⟩
 | tup xs => obtain ⟨_, _, _, o, e, _⟩ := x; exact ⟨_, e⟩
 | dK kvs => obtain ⟨_, _, _, _, o, _, _, e, _⟩ := x; exact ⟨_, e⟩
 | dT kvs => obtain ⟨_, _, _, _, o, _, _, e, _⟩ := x; exact ⟨_, e⟩
 | set S n => obtain ⟨o, _, _, _, e, _⟩ := x; exact ⟨_, e⟩
 | ins C dx fs => obtain ⟨_, _, _, e, _⟩ := x; exact ⟨_, e⟩
 | own y => exact x
 | xd fs => obtain ⟨_, ⟨_, _, _, e, _⟩, _⟩ := x; exact ⟨_, e⟩
 | g9 lo hi => obtain ⟨_, _, _, e⟩ := x; exact ⟨_, e⟩
 | aJ ob u => obtain ⟨e, _⟩ := x; exact ⟨_, e⟩
 | tbl ps => exact ⟨_, x⟩
 | met f y => exact ⟨_, x⟩
 | ext φ => exact x.2.1
noncomputable def Eb (X : Cx) (E : XK) : Prop := ∀ (pins : List (Addr × Obj)) (σ : L2.St) (H : Hp) (s : Shared) (e C : Addr) (vs : List Value) (h' : Heap), Inv X pins σ H s -> Heap.MadeExcOf s.heap h' e (.ref C) vs -> E (.ref C) none H -> X.xe (.ref e) { s with heap := h' }
noncomputable def Ec (C : Addr) (E : XK) (ta : TA) : TS := fun D σ H => ta σ H fun vs H1 => vs.length <= sizeLine /\ E (.ref C) none H1
section
variable {X : Cx}
theorem jS {x : Str} {np bY pos : Pos} {e₀ : Expr} {rest : List Expr} {ta : TA} {C : Addr} {E : XK} (hx : Eb X E) (hg : Gl X x) (hm : X.mg x = some (.ref C)) (xc : XC X.K C) (hc : X.calm = true) (ha : PA X (e₀ :: rest) ta)
 (hd : (x == ("__debug__" : Str)) = false := by decide) (he : starEach (e₀ :: rest) X.env = (false, eval e₀ X.env) :: starEach rest X.env := by rfl)
 (dj : (backTo bY (starEach rest X.env)).any (·.1) = false := by rfl) :
 PS X (.Raise (some (.Call (.Name x np) (e₀ :: rest) [] bY)) none pos) (Ec C E ta) := by
 intro pins s σ H D I h
 obtain ⟨tl, N, nm, q, bs, hdct, sn, sub, ab, col, dd, k0, k1, k2, k3, k5, mN, hC, hN, hni, T⟩ := La I.ok.mod.kin xc
 refine wpAny_Raise_call_subU (C := C) (nm := nm) (q := q) (N := N) (bs := bs) (bm := tl) (hdct := hdct) (sn := sn) (sub := sub) (ab := ab) (col := col) (dd := dd) (k0 := k0) (k1 := k1) (k2 := k2) (k3 := k3) (k5 := k5)
  PySem.F.excBase_ValueError (by decide +kernel) PySem.F.excBase_ValueError (mN := mN) (T.hasType PySem.F.excBase_ValueError.hasBase) (I.ok.hd hc) (by rw [he]; show (false || (backTo bY (starEach rest X.env)).any (·.1)) = false; rw [dj]; rfl) hni (rR I hg hm ⟨rfl, ?_⟩ hd)
 have pL := ha bY pins s σ H _ I h
 rw [he] at pL ⊢
 refine Calls.evalArgs_plain (wpAny_mono pL (fun us s₂ h₂ => ?_) fun _ _ y => y)
 obtain ⟨vs, H1, I1, r, hl, hE⟩ := h₂
 exact ⟨rfl, by rw [<- r.length]; exact hl, I1.bk _ _ hC, hN.keeps I1.bk, T.keeps I1.bk, fun h' e hm => hx pins σ H1 s₂ e C us h' I1 hm hE⟩
end
section
variable {P : Program} {w : World} {K : PySem.W.Frag} {mg : Str -> Option Value} {base : Heap} {N : List Str} {qual : Str} {scope : Scope} {f : Addr} {cd : Value} {A : Around} {outer : List Env} {s : Shared} {H : Hp} {E : XK}
theorem Ed {env : Env} {b L : Addr} (hf : env.frame = some L) (h : b ∈ aN (env :: outer)) : b = L ∨ b ∈ aN outer := by
 unfold aN at h
 rw [List.filterMap_cons, hf] at h
 exact List.mem_cons.mp h
theorem jT : Eb (dk (aM P w) P w K mg base N qual scope f cd A outer s H E) E := by
 intro pins σ H1 s1 e C vs h1 I hx hE
 have ya : (dk (aM P w) P w K mg base N qual scope f cd A outer s H E).A.frames = some (envOfC qual scope s.heap.objs.size f cd :: outer) := I.ok.frames
 have hF : s1.heap.FunFrames base (envOfC qual scope s.heap.objs.size f cd :: outer) := I.stack
 have b9 : ∀ env ∈ (envOfC qual scope s.heap.objs.size f cd :: outer), ∀ b, env.frame = some b -> b ∈ aN (envOfC qual scope s.heap.objs.size f cd :: outer) := fun env he b hb => List.mem_filterMap.mpr ⟨env, he, hb⟩
 have Lb : ∀ b ∈ aN (envOfC qual scope s.heap.objs.size f cd :: outer), H1 b = none := I.oy
 have kY : ∀ b o, s.heap.get? b = some o -> b ≠ s.heap.objs.size := fun b o e => Nat.ne_of_lt (Heap.lt_size e)
 have gd : ∀ b o, s.heap.get? b = some o -> b ∉ aN outer -> b ∉ aN (envOfC qual scope s.heap.objs.size f cd :: outer) := fun b o e hb z => by
  rcases Ed rfl z with z | z
  ·exact kY b o e z
  ·exact hb z
 have ub : Un (aN outer) [] H H1 s.heap s1.heap := I.base
 refine wpAny_leaves_madeW (base := PySem.W.hideAll s1.heap (aN (envOfC qual scope s.heap.objs.size f cd :: outer))) ya rfl (fun b o q => PySem.W.of_hideAll _ q) (PySem.W.funFrames_hide hF b9) hx fun h' t fl tup bt up => ?_
 have stays := fl.1
 have lP : ∀ b o, s1.heap.get? b = some o -> b ∉ aN (envOfC qual scope s.heap.objs.size f cd :: outer) -> (PySem.W.hideAll s1.heap (aN (envOfC qual scope s.heap.objs.size f cd :: outer))).get? b = some o := fun b o q hb => PySem.W.hideAll_get _ q hb
 have pM : ∀ b ∈ aN (envOfC qual scope s.heap.objs.size f cd :: outer), ∀ o, s1.heap.get? b = some o -> ∃ sl, h'.get? b = some { o with slots := sl } := fun b hb o q => by
  obtain ⟨_, o', ck, hnf⟩ := hF.mem hb
  rw [q] at ck; cases ck
  exact up b o (hx.keeps b o q) hnf
 refine ⟨e, .ref C, .ref t, H1, _, rfl, I.os, I.bare, ⟨fun b o q n hb de => ?_, fun b o q n hb de => ?_, ub.free, fun b o q de => ?_, ub.cv, ub.cw, ub.cG⟩, fun b o q n hb => ?_, fun b o q hb => ?_, fun a o q => ?_, ?_, ?_, fl, hE⟩
 ·exact stays b o (lP b o (ub.keep b o q n hb de) (gd b o q hb))
 ·obtain ⟨sl, e1⟩ := ub.slot b o q n hb de
  obtain ⟨cH, e2⟩ := pM b (by unfold aN; rw [List.filterMap_cons]; exact List.mem_cons_of_mem _ hb) _ e1
  exact ⟨cH, e2⟩
 ·obtain ⟨o', e1⟩ := ub.there b o q de
  by_cases hb : b ∈ aN (envOfC qual scope s.heap.objs.size f cd :: outer)
  ·obtain ⟨sl, e2⟩ := pM b hb o' e1
   exact ⟨_, e2⟩
  ·exact ⟨o', stays b o' (lP b o' e1 hb)⟩
 ·exact lP b o (ub.keep b o q n hb (by simp)) (gd b o q hb)
 ·obtain ⟨o', e1⟩ := ub.there b o q (by simp)
  exact ⟨o', lP b o' e1 (gd b o q hb)⟩
 ·refine (I.ag a o q).d7 (fun b u hb z => lP b u z fun hm => ?_) (fun _ z => z) fun _ _ z => z
  have := Lb b hm
  rcases hb with hb | hb
  ·rw [hb, q] at this; cases this
  ·rw [hb] at this; cases this
 ·cases q : H1 e with
  | none => rfl
  | some u =>
   obtain ⟨ob, z⟩ := bb.some (I.ag e u q)
   rw [hx.new] at z; cases z
 ·cases q : s.heap.get? e with
  | none => rfl
  | some u =>
   obtain ⟨o', z⟩ := ub.there e u q (by simp)
   rw [hx.new] at z; cases z
theorem yb : Passes (aM P w) (dk (aM P w) P w K mg base N qual scope f cd A outer s H E) E := by
 intro pins σ H1 s1 ev s2 I cx
 obtain ⟨x, cls, a0, H', B, rfl, os, bare, un, kb, tb, ag, hx, hn, fl, hE⟩ := cx
 have ya : (dk (aM P w) P w K mg base N qual scope f cd A outer s H E).A.frames = some (envOfC qual scope s.heap.objs.size f cd :: outer) := I.ok.frames
 have hF : s1.heap.FunFrames base (envOfC qual scope s.heap.objs.size f cd :: outer) := I.stack
 have kY : ∀ b o, s.heap.get? b = some o -> b ≠ s.heap.objs.size := fun b o e => Nat.ne_of_lt (Heap.lt_size e)
 have gd : ∀ b o, s.heap.get? b = some o -> b ∉ aN outer -> b ∉ aN (envOfC qual scope s.heap.objs.size f cd :: outer) := fun b o e hb z => by
  rcases Ed rfl z with z | z
  ·exact kY b o e z
  ·exact hb z
 have Lc : ∀ b, b ∈ aN outer -> b ∈ aN (envOfC qual scope s.heap.objs.size f cd :: outer) := fun b hb => by
  unfold aN; rw [List.filterMap_cons]; exact List.mem_cons_of_mem _ hb
 have ub : Un (aN outer) [] H H1 s.heap s1.heap := I.base
 have Ee : Un (aN (envOfC qual scope s.heap.objs.size f cd :: outer)) [] H1 H' s1.heap s2.heap := un
 have Ef : ∀ b o, s1.heap.get? b = some o -> H1 b = none -> b ∉ aN (envOfC qual scope s.heap.objs.size f cd :: outer) -> B.get? b = some o := kb
 have bB : ∀ b o, s1.heap.get? b = some o -> b ∉ aN (envOfC qual scope s.heap.objs.size f cd :: outer) -> ∃ o', B.get? b = some o' := tb
 have Ld : ∀ b ∈ aN (envOfC qual scope s.heap.objs.size f cd :: outer), H1 b = none := I.oy
 refine wpAny_leaves_onW ya rfl fl fun h' Eg up => ?_
 have stays := Eg.1
 have pM : ∀ b ∈ aN (envOfC qual scope s.heap.objs.size f cd :: outer), ∀ o, s1.heap.get? b = some o -> ∃ sl, h'.get? b = some { o with slots := sl } := fun b hb o q => by
  obtain ⟨_, o', ck, hnf⟩ := hF.mem hb
  rw [q] at ck; cases ck
  obtain ⟨sl, e1⟩ := Ee.slot b o q (Ld b hb) hb (by simp)
  obtain ⟨cH, e2⟩ := up b _ e1 hnf
  exact ⟨cH, e2⟩
 refine ⟨x, cls, a0, H', B, rfl, os.trans I.os, bare, ⟨fun b o q n hb de => ?_, fun b o q n hb de => ?_, fun b o q n de => ?_, fun b o q de => ?_, fun b xs q => un.cv _ _ (ub.cv _ _ q), fun b o u q => un.cw _ _ _ (ub.cw _ _ _ q), fun b ps q => ?_⟩, fun b o q n hb => ?_, fun b o q hb => ?_, ag, hx, ?_, Eg, hE⟩
 ·exact stays b o (Ef b o (ub.keep b o q n hb de) (ub.free b o q n de) (gd b o q hb))
 ·obtain ⟨sl, e1⟩ := ub.slot b o q n hb de
  obtain ⟨cH, e2⟩ := pM b (Lc b hb) _ e1
  exact ⟨cH, e2⟩
 ·obtain ⟨o', e1⟩ := ub.there b o q de
  exact Ee.free b o' e1 (ub.free b o q n de) (by simp)
 ·obtain ⟨o', e1⟩ := ub.there b o q de
  by_cases hb : b ∈ aN (envOfC qual scope s.heap.objs.size f cd :: outer)
  ·obtain ⟨sl, e2⟩ := pM b hb o' e1
   exact ⟨_, e2⟩
  ·obtain ⟨o2, e2⟩ := bB b o' e1 hb
   exact ⟨o2, stays b o2 e2⟩
 ·obtain ⟨m1, e1⟩ := ub.cG b ps q
  obtain ⟨m2, e2⟩ := un.cG b _ e1
  exact ⟨m1 ++ m2, by rw [e2, Array.append_assoc]⟩
 ·exact Ef b o (ub.keep b o q n hb (by simp)) (ub.free b o q n (by simp)) (gd b o q hb)
 ·obtain ⟨o', e1⟩ := ub.there b o q (by simp)
  exact bB b o' e1 (gd b o q hb)
 ·cases q : s.heap.get? x with
  | none => rfl
  | some u =>
   obtain ⟨o', z⟩ := ub.there x u q (by simp)
   rw [hn] at z; cases z
theorem jU {x qual : Str} {st : Stmt} {f : Addr} {fd : FuncData} {N ps : List Str} {k : Nat} {sp : Sp} (F : aS K x qual st f fd) (S : aU N ps (av st)) (len : ∀ vs H Q E, sp vs H Q E -> vs.length = ps.length)
 (jK : ∀ (aD : Value) (A : Around) (outer : List Env) (s : Shared) (H : Hp) (vs : List V) (Q : VK) (E : XK), bE k (A.deeper (envOfC qual (av st) s.heap.objs.size f aD)) -> sp vs H Q E ->
   ∃ t, bo (dk (aM P w) P w K mg base N qual (av st) f aD A outer s H E) (aP st) t /\ t { nx := fun _ H' => Q .non H', rt := Q } (start N vs) H) : aL P w K mg base (aM P w) (k + 1) f fd ps sp := by
 obtain ⟨oc, od, kV, doc, pm, an, aD, ct, fL, rfl, lk, dh⟩ := F.ex
 refine xQ lk dh S len fun A outer s H vs Q E hr fM => ?_
 exact jK aD A outer s H vs Q E hr fM
end
end Gz
namespace Gz
open PySem PySem.Spec PyProof.Rows L2
section
variable {X : Cx} {F : Value -> Shared -> Prop} {pins pn : List (Addr × Obj)} {σ : L2.St} {H : Hp} {s : Shared} {A' : Around}
end
end Gz
namespace Gz
noncomputable def tq (a b : Int) : Int := ((Nat.gcd a.natAbs b.natAbs : Nat) : Int)
noncomputable def sg (t b : Int) : Int := if b < 0 then -tq t b else tq t b
noncomputable def rt (t b : Int) : Int := t.fdiv (sg t b)
noncomputable def rb (t b : Int) : Int := b.fdiv (sg t b)
theorem Le (x : Int) : (x % 1000000000000000000000000000000).natAbs < 2 ^ 200 := by
 have h1 := Int.emod_nonneg x (show (1000000000000000000000000000000 : Int) ≠ 0 by decide)
 have h2 := Int.emod_lt_of_pos x (show (0 : Int) < 1000000000000000000000000000000 by decide)
 omega
end Gz
namespace Gz
open PySem PySem.W PyProof.Rows
noncomputable def cm {α : Type} (lt : Nat -> Nat -> Bool) (n : Nat) : KasT α -> (α -> Prop) -> Prop
 | .ret a, P => P a
 | .ask i j k, P => i < n /\ j < n /\ cm lt n (k (lt i j)) P
section
variable {lt : Nat -> Nat -> Bool} {n : Nat}
theorem lQ {α β : Type} {f : α -> KasT β} {P : β -> Prop} : ∀ (t : KasT α), cm lt n t (fun a => cm lt n (f a) P) -> cm lt n (t.bind f) P
 | .ret _, h => h
 | .ask _ _ k, h => ⟨h.1, h.2.1, lQ (k _) h.2.2⟩
theorem Eh {α : Type} {P P' : α -> Prop} (h : ∀ a, P a -> P' a) : ∀ (t : KasT α), cm lt n t P -> cm lt n t P'
 | .ret _, q => h _ q
 | .ask _ _ k, q => ⟨q.1, q.2.1, Eh h (k _) q.2.2⟩
theorem Ei {α : Type} {cmp : Nat -> Nat -> (Bool -> Shared -> Prop) -> Shared -> Prop} {Ok : Shared -> Prop} (hc : ∀ i j C s, i < n -> j < n -> Ok s -> (∀ s', Ok s' -> C (lt i j) s') -> cmp i j C s) {P : α -> Prop} {Q : α -> Shared -> Prop} (hQ : ∀ a s, Ok s -> P a -> Q a s) :
 ∀ (t : KasT α) (s : Shared), Ok s -> cm lt n t P -> t.kasWp cmp Q s
 | .ret a, s, o, h => hQ a s o h
 | .ask i j k, s, o, h => hc i j _ s h.1 h.2.1 o fun s' o' => Ei hc hQ (k (lt i j)) s' o' h.2.2
structure Ord (lt : Nat -> Nat -> Bool) : Prop where
 asym : ∀ {a b}, lt a b = true -> lt b a = false
 tr : ∀ {a b c}, lt b a = false -> lt c b = false -> lt c a = false
theorem Ord.rfl' (O : Ord lt) (a : Nat) : lt a a = false := by
 cases h : lt a a with
 | false => rfl
 | true => rw [O.asym h] at h; cases h
noncomputable def cn (lt : Nat -> Nat -> Bool) (p : Array Nat) (k : Nat) : Prop := ∀ i j, i <= j -> j < k -> lt (p.getD j 0) (p.getD i 0) = false
noncomputable def cW (lt : Nat -> Nat -> Bool) (p : Array Nat) (k : Nat) : Prop := ∀ i j, i <= j -> j < k -> lt (p.getD i 0) (p.getD j 0) = false
noncomputable def bx (n : Nat) (p : Array Nat) : Prop := p.toList.Perm (List.range n)
theorem bx.size {p : Array Nat} (h : bx n p) : p.size = n := by
 have := h.length_eq
 simpa using this
theorem bx.below {p : Array Nat} (h : bx n p) {i : Nat} (hi : i < n) : p.getD i 0 < n := by
 have hs := h.size
 have aZ : i < p.size := by omega
 have e : p.getD i 0 = p[i] := by simp [Array.getD, aZ]
 rw [e]
 have m : p[i] ∈ p.toList := by simp
 simpa using h.mem_iff.mp m
theorem bx.of {p q : Array Nat} (h : bx n p) (hq : q.Perm p) : bx n q := (Array.perm_iff_toList_perm.mp hq).trans h
theorem cn.one (O : Ord lt) {p : Array Nat} : cn lt p 1 := fun i j dI hj => by
 have : i = j := by omega
 subst this; exact O.rfl' _
theorem cW.one (O : Ord lt) {p : Array Nat} : cW lt p 1 := fun i j dI hj => by
 have : i = j := by omega
 subst this; exact O.rfl' _
theorem cn.succ (O : Ord lt) {p : Array Nat} {k : Nat} (h : cn lt p k) (hk : 1 <= k) (hn : lt (p.getD k 0) (p.getD (k - 1) 0) = false) : cn lt p (k + 1) := fun i j dI hj => by
 by_cases e : j = k
 ·subst e
  by_cases ei : i = j
  ·subst ei; exact O.rfl' _
  ·exact O.tr (h i (j - 1) (by omega) (by omega)) hn
 ·exact h i j dI (by omega)
theorem cW.succ (O : Ord lt) {p : Array Nat} {k : Nat} (h : cW lt p k) (hk : 1 <= k) (hn : lt (p.getD (k - 1) 0) (p.getD k 0) = false) : cW lt p (k + 1) := fun i j dI hj => by
 by_cases e : j = k
 ·subst e
  by_cases ei : i = j
  ·subst ei; exact O.rfl' _
  ·exact O.tr hn (h i (j - 1) (by omega) (by omega))
 ·exact h i j dI (by omega)
theorem il {p : Array Nat} {i j : Nat} (hj : j <= p.size) (k : Nat) : (kas_rev p i j).getD k 0 = if i <= k /\ k < j then p.getD (i + j - 1 - k) 0 else p.getD k 0 := by
 simp only [Array.getD_eq_getD_getElem?]
 unfold kas_rev
 rw [getElem?_mirror_all hj]
 split <;> rfl
theorem Ej {p : Array Nat} {k l : Nat} (hk : k < p.size) (hl : l <= k) (i : Nat) : (bubble p k (k - l)).getD i 0 = if i = l then p.getD k 0 else if l < i /\ i <= k then p.getD (i - 1) 0 else p.getD i 0 := by
 simp only [Array.getD_eq_getD_getElem?]
 rw [getElem?_bubble hk _ (by omega)]
 have e : k - (k - l) = l := by omega
 rw [e]
 split
 ·rfl
 ·split <;> rfl
theorem Ek (O : Ord lt) {p : Array Nat} (hp : bx n p) {P : Nat -> Prop} : ∀ (f a : Nat), 1 <= a -> a + f <= n -> cn lt p a -> (∀ m, a <= m -> m <= a + f -> cn lt p m -> P m) -> cm lt n (kas_asc p f a) P
 | 0, a, h1, h2, hs, q => q a (Nat.le_refl _) (by omega) hs
 | f + 1, a, h1, h2, hs, q => by
  refine ⟨hp.below (by omega), hp.below (by omega), ?_⟩
  cases c : lt (p.getD a 0) (p.getD (a - 1) 0) with
  | true =>
   simp only [↓reduceIte]
   exact q a (Nat.le_refl _) (by omega) hs
  | false =>
   simp only [Bool.false_eq_true, ↓reduceIte]
   exact Ek O hp f (a + 1) (by omega) (by omega) (hs.succ O h1 c) fun m m1 m2 => q m (by omega) (by omega)
theorem cW.rev {p : Array Nat} {k i : Nat} (h : cW lt p k) (hk : k <= p.size) (hi : i <= k) (he : ∀ j, i <= j -> j < k -> lt (p.getD (k - 1) 0) (p.getD j 0) = false) (O : Ord lt) : cW lt (kas_rev p i k) k := fun a b cM hb => by
 rw [il hk, il hk]
 have eqv : ∀ x y, i <= x -> x < k -> i <= y -> y < k -> lt (p.getD x 0) (p.getD y 0) = false := fun x y x1 x2 y1 y2 => O.tr (he y y1 y2) (h x (k - 1) (by omega) (by omega))
 split
 ·split
  ·exact eqv _ _ (by omega) (by omega) (by omega) (by omega)
  ·exfalso; omega
 ·split
  ·exact h _ _ (by omega) (by omega)
  ·exact h _ _ cM hb
theorem tu (O : Ord lt) {P : Array Nat × Nat × Nat -> Prop} : ∀ (f : Nat) (p : Array Nat) (k q : Nat), bx n p -> 1 <= k -> k + f <= n -> q + 1 <= k -> cW lt p k -> (∀ j, k - (q + 1) <= j -> j < k -> lt (p.getD (k - 1) 0) (p.getD j 0) = false) ->
 (∀ p' k' q', bx n p' -> k <= k' -> k' <= k + f -> q' + 1 <= k' -> cW lt p' k' -> (∀ j, k' - (q' + 1) <= j -> j < k' -> lt (p'.getD (k' - 1) 0) (p'.getD j 0) = false) -> P (p', k', q')) -> cm lt n (kas_desc f p k q) P
 | 0, p, k, q, hp, h1, h2, h3, hd, he, fin => fin p k q hp (Nat.le_refl _) (by omega) h3 hd he
 | f + 1, p, k, q, hp, h1, h2, h3, hd, he, fin => by
  have hs := hp.size
  have one : ∀ (p' : Array Nat), ∀ j, (k + 1) - (0 + 1) <= j -> j < k + 1 -> lt (p'.getD (k + 1 - 1) 0) (p'.getD j 0) = false := fun p' j j1 j2 => by
   have : j = k := by omega
   subst this; exact O.rfl' _
  refine ⟨hp.below (by omega), hp.below (by omega), ?_⟩
  cases c : lt (p.getD k 0) (p.getD (k - 1) 0) with
  | true =>
   simp only [↓reduceIte]
   have c' := O.asym c
   by_cases hq : q > 0
   ·rw [if_pos hq]
    have bZ : bx n (kas_rev p (k - (q + 1)) k) := hp.of (mirror_perm _ _ _ _)
    have eW : cW lt (kas_rev p (k - (q + 1)) k) k := hd.rev (by omega) (by omega) he O
    refine tu O f _ (k + 1) 0 bZ (by omega) (by omega) (by omega) (eW.succ O h1 ?_) (one _) fun p2 k2 q2 a1 a2 a3 a4 a5 a6 => fin p2 k2 q2 a1 (by omega) (by omega) a4 a5 a6
    rw [il (by omega), il (by omega), if_pos (by omega), if_neg (by omega)]
    have e1 : k - (q + 1) + k - 1 - (k - 1) = k - (q + 1) := by omega
    rw [e1]
    exact O.tr c' (hd _ (k - 1) (by omega) (by omega))
   ·rw [if_neg hq]
    exact tu O f p (k + 1) 0 hp (by omega) (by omega) (by omega) (hd.succ O h1 c') (one _) fun p2 k2 q2 a1 a2 a3 a4 a5 a6 => fin p2 k2 q2 a1 (by omega) (by omega) a4 a5 a6
  | false =>
   simp only [Bool.false_eq_true, ↓reduceIte]
   refine ⟨hp.below (by omega), hp.below (by omega), ?_⟩
   cases d : lt (p.getD (k - 1) 0) (p.getD k 0) with
   | true =>
    simp only [↓reduceIte]
    exact fin p k q hp (Nat.le_refl _) (by omega) h3 hd he
   | false =>
    simp only [Bool.false_eq_true, ↓reduceIte]
    refine tu O f p (k + 1) (q + 1) hp (by omega) (by omega) (by omega) (hd.succ O h1 d) (fun j j1 j2 => ?_) fun p2 k2 q2 a1 a2 a3 a4 a5 a6 => fin p2 k2 q2 a1 (by omega) (by omega) a4 a5 a6
    have ek : k + 1 - 1 = k := by omega
    rw [ek]
    by_cases ej : j = k
    ·subst ej; exact O.rfl' _
    ·exact O.tr (he j (by omega) (by omega)) c
theorem cW.whole {p : Array Nat} {k : Nat} (h : cW lt p k) (hk : k <= p.size) : cn lt (kas_rev p 0 k) k := fun a b cM hb => by
 rw [il hk, il hk, if_pos (by omega), if_pos (by omega)]
 exact h _ _ (by omega) (by omega)
theorem El (O : Ord lt) {P : Nat × Array Nat -> Prop} {p : Array Nat} {k : Nat} (hp : bx n p) (h1 : 1 <= k) (h2 : k <= n) (hd : cW lt p k) (fin : ∀ m p', bx n p' -> 1 <= m -> m <= n -> cn lt p' m -> P (m, p')) : cm lt n (kas_tail3 k n p) P := by
 have bZ : bx n (kas_rev p 0 k) := hp.of (mirror_perm _ _ _ _)
 have hs := hp.size
 unfold kas_tail3
 refine lQ _ (Ek O bZ (n - k) k h1 (by omega) (hd.whole (by omega)) fun m m1 m2 ms => ?_)
 exact fin m _ bZ (by omega) (by omega) ms
theorem Em (O : Ord lt) {P : Nat × Array Nat -> Prop} {p : Array Nat} {k : Nat} (hp : bx n p) (h1 : 1 <= k) (h2 : k + 1 <= n) (hd : cW lt p (k + 1)) (fin : ∀ m p', bx n p' -> 1 <= m -> m <= n -> cn lt p' m -> P (m, p')) : cm lt n (kas_descPart k n p) P := by
 unfold kas_descPart
 refine lQ _ (tu O (n - (k + 1)) p (k + 1) 0 hp (by omega) (by omega) (by omega) hd (fun j j1 j2 => ?_) fun p2 k2 q2 a1 a2 a3 a4 a5 a6 => ?_)
 ·have : j = k := by omega
  subst this; exact O.rfl' _
 ·have hs := a1.size
  dsimp only
  by_cases hq : q2 > 0
  ·rw [if_pos hq]
   exact El O (a1.of (mirror_perm _ _ _ _)) (by omega) (by omega) (a5.rev (by omega) (by omega) a6 O) fin
  ·rw [if_neg hq]
   exact El O a1 (by omega) (by omega) a5 fin
theorem Lf (O : Ord lt) {P : Nat × Array Nat -> Prop} {p : Array Nat} (hp : bx n p) (hn : 1 <= n) (fin : ∀ m p', bx n p' -> 1 <= m -> m <= n -> cn lt p' m -> P (m, p')) : cm lt n (kas_count n p) P := by
 have hs := hp.size
 unfold kas_count
 have key : cm lt n (kas_asc p (n - 1) 1) (fun m => 1 <= m /\ m <= n /\ cn lt p m /\ (m < n -> lt (p.getD m 0) (p.getD (m - 1) 0) = true)) := by
  have gen : ∀ (f a : Nat), 1 <= a -> a + f = n -> cn lt p a -> cm lt n (kas_asc p f a) (fun m => 1 <= m /\ m <= n /\ cn lt p m /\ (m < n -> lt (p.getD m 0) (p.getD (m - 1) 0) = true)) := by
   intro f
   induction f with
   | zero => intro a h1 h2 hs; exact ⟨h1, by omega, hs, fun z => absurd z (by omega)⟩
   | succ f ih =>
    intro a h1 h2 hs
    refine ⟨hp.below (by omega), hp.below (by omega), ?_⟩
    cases c : lt (p.getD a 0) (p.getD (a - 1) 0) with
    | true =>
     simp only [↓reduceIte]
     exact ⟨h1, by omega, hs, fun _ => c⟩
    | false =>
     simp only [Bool.false_eq_true, ↓reduceIte]
     exact ih (a + 1) (by omega) (by omega) (hs.succ O h1 c)
  exact gen (n - 1) 1 (Nat.le_refl _) (by omega) (cn.one O)
 refine lQ _ (Eh (fun m hm => ?_) _ key)
 obtain ⟨m1, m2, ms, mc⟩ := hm
 by_cases e : (m == n) = true
 ·rw [if_pos e]
  exact fin m p hp m1 m2 ms
 ·rw [if_neg e]
  have Lg : m < n := by
   have : m ≠ n := by simpa using e
   omega
  have mc := mc Lg
  by_cases h2 : m > 1
  ·rw [if_pos h2]
   refine ⟨hp.below (by omega), hp.below (by omega), ?_⟩
   cases c : lt (p.getD 0 0) (p.getD (m - 1) 0) with
   | true =>
    simp only [↓reduceIte]
    exact fin m p hp m1 m2 ms
   | false =>
    simp only [Bool.false_eq_true, ↓reduceIte]
    have eqv : ∀ x y, x < m -> y < m -> lt (p.getD x 0) (p.getD y 0) = false := fun x y hx hy =>
     O.tr (ms y (m - 1) (by omega) (by omega)) (O.tr c (ms 0 x (by omega) hx))
    have bZ : bx n (kas_rev p 0 m) := hp.of (mirror_perm _ _ _ _)
    refine Em O bZ m1 (by omega) (fun i j dI hj => ?_) fin
    rw [il (by omega), il (by omega)]
    by_cases ej : j = m
    ·subst ej
     rw [if_neg (show ¬ (0 <= j /\ j < j) by omega)]
     split
     ·exact O.tr (O.asym mc) (eqv _ _ (by omega) (by omega))
     ·have : i = j := by omega
      subst this; exact O.rfl' _
    ·rw [if_pos (by omega), if_pos (by omega)]
     exact eqv _ _ (by omega) (by omega)
  ·rw [if_neg h2]
   have e1 : m = 1 := by omega
   subst e1
   exact Em O hp (Nat.le_refl _) (by omega) ((cW.one O).succ O (Nat.le_refl _) (O.asym mc)) fin
theorem yc {p : Array Nat} {k : Nat} {P : Nat -> Prop} (O : Ord lt) (hp : bx n p) (hk : k < n) (hs : cn lt p k) (fin : ∀ m, m <= k -> (∀ i, i < m -> lt (p.getD k 0) (p.getD i 0) = false) -> (∀ i, m <= i -> i < k -> lt (p.getD i 0) (p.getD k 0) = false) -> P m) :
 ∀ (f l r : Nat), r - l <= f -> l <= r -> r <= k -> (∀ i, i < l -> lt (p.getD k 0) (p.getD i 0) = false) -> (∀ i, r <= i -> i < k -> lt (p.getD i 0) (p.getD k 0) = false) -> cm lt n (kas_place p k f l r) P
 | 0, l, r, h1, h2, h3, a, b => by
  have : l = r := by omega
  subst this
  exact fin l h3 a b
 | f + 1, l, r, h1, h2, h3, a, b => by
  unfold kas_place
  by_cases hlr : l ≥ r
  ·rw [if_pos hlr]
   have : l = r := by omega
   subst this
   exact fin l h3 a b
  ·rw [if_neg hlr]
   refine ⟨hp.below hk, hp.below (by omega), ?_⟩
   cases c : lt (p.getD k 0) (p.getD ((l + r) / 2) 0) with
   | true =>
    simp only [↓reduceIte]
    refine yc O hp hk hs fin f l ((l + r) / 2) (by omega) (by omega) (by omega) a fun i i1 i2 => ?_
    exact O.tr (O.asym c) (hs _ _ i1 i2)
   | false =>
    simp only [Bool.false_eq_true, ↓reduceIte]
    refine yc O hp hk hs fin f ((l + r) / 2 + 1) r (by omega) (by omega) h3 (fun i i1 => ?_) b
    exact O.tr (hs i ((l + r) / 2) (by omega) (by omega)) c
theorem Eo (O : Ord lt) {P : Array Nat -> Prop} (fin : ∀ p, bx n p -> cn lt p n -> P p) : ∀ (f : Nat) (p : Array Nat) (k : Nat), k + f = n -> bx n p -> cn lt p k -> cm lt n (kas_bin f p k) P
 | 0, p, k, h, hp, hs => fin p hp (by rw [<- h]; exact hs)
 | f + 1, p, k, h, hp, hs => by
  have sz := hp.size
  unfold kas_bin
  refine lQ _ (yc O hp (by omega) hs (fun m m1 ma mb => ?_) k 0 k (by omega) (by omega) (Nat.le_refl _) (fun _ z => absurd z (by omega)) fun _ z1 z2 => absurd z2 (by omega))
  refine Eo O fin f _ (k + 1) (by omega) (hp.of (bubble_perm _ _ _)) fun i j dI hj => ?_
  rw [Ej (by omega) m1, Ej (by omega) m1]
  by_cases ei : i = m
  ·rw [if_pos ei]
   by_cases ej : j = m
   ·rw [if_pos ej]; exact O.rfl' _
   ·rw [if_neg ej, if_pos (by omega)]
    exact mb _ (by omega) (by omega)
  ·rw [if_neg ei]
   by_cases ej : j = m
   ·rw [if_pos ej, if_neg (by omega)]
    exact ma _ (by omega)
   ·rw [if_neg ej]
    split
    ·split
     ·exact hs _ _ (by omega) (by omega)
     ·exact hs _ _ (by omega) (by omega)
    ·split
     ·exfalso; omega
     ·exact hs _ _ (by omega) (by omega)
theorem Ep (O : Ord lt) (hn : 1 <= n) : cm lt n (kas_sort n) (fun p => bx n p /\ cn lt p n) := by
 unfold kas_sort
 have h0 : bx n (List.toArray (List.range n)) := by unfold bx; simp
 refine lQ _ (Lf O h0 hn fun m p hp m1 m2 ms => ?_)
 dsimp only
 by_cases h : m < n
 ·rw [if_pos h]
  have e : max m 1 = m := by omega
  rw [e]
  exact Eo O (fun p hp hs => ⟨hp, hs⟩) (n - m) p m (by omega) hp ms
 ·rw [if_neg h]
  have e : m = n := by omega
  subst e
  exact ⟨hp, ms⟩
noncomputable def tD {α : Type} (lt : Nat -> Nat -> Bool) : KasT α -> α
 | .ret a => a
 | .ask i j k => tD lt (k (lt i j))
theorem Er {α : Type} {P : α -> Prop} : ∀ (t : KasT α), cm lt n t P -> P (tD lt t)
 | .ret _, h => h
 | .ask i j k, h => Er (k (lt i j)) h.2.2
theorem Es {α : Type} {P : α -> Prop} : ∀ (t : KasT α), cm lt n t P -> cm lt n t (fun a => a = tD lt t)
 | .ret _, _ => rfl
 | .ask i j k, h => ⟨h.1, h.2.1, Es (k (lt i j)) h.2.2⟩
noncomputable def bT (lt : Nat -> Nat -> Bool) (n : Nat) : Array Nat := if n < 2 then List.toArray (List.range n) else tD lt (kas_sort n)
theorem pN (O : Ord lt) : bx n (bT lt n) /\ cn lt (bT lt n) n := by
 unfold bT
 split
 ·rename_i h
  refine ⟨by unfold bx; simp, fun i j dI hj => ?_⟩
  have : i = j := by omega
  subst this; exact O.rfl' _
 ·rename_i h
  exact Er _ (Ep O (by omega))
end
end Gz
namespace Gz
open PySem PySem.Spec PyProof.Rows L2
local macro_rules | `(tactic| walk_at "om") => `(tactic| ((try simp only [PySem.Addr] at *); omega))
theorem Et {prog : Program} {w : World} {A : Around} {E : Value -> Shared -> Prop} {s : Shared} {id : String} {b : Builtin} {args : List Value} {kw : List (Str × Value)} {Q : Value -> Shared -> Prop} (hk : builtinKind id = none) (hp : plainId id = true)
 (hb : entryFor table id = some b) (ha : argsOk id ⟨args, kw⟩)
 (hc : wpAny (model prog w) A.in1 (b ⟨args, kw⟩) (fun fin s' => match fin with
   | .done f => (match (Except.ok f : Result) with | .ok (.ret v) => Q v s' | .ok _ => False | .error e => E e s')
   | .again c' => c'.quiet = true /\ codeAny (model prog w) A c' (fun r s' => match r with | .ok (.ret v) => Q v s' | .ok _ => False | .error e => E e s') s') E s) :
 wpAny (model prog w) A (call (.builtin id) args kw) Q E s := by
 refine wpAny_call (codeAny_call_builtin hp hb ?_)
 simp only [checkBuiltinCall, hk]
 cases hsig : Manifest.signature? id with
 | none => exact wpAny_pure hc
 | some sig =>
  have pL : Bind.checkArgs id sig ⟨args, kw⟩ = pure () := by simpa only [argsOk, hsig] using ha
  simp only [pL]
  exact wpAny_pure hc
theorem Lh {prog : Program} {w : World} {A : Around} {R : Result -> Shared -> Prop} {I S : Addr} {fp wr : List Addr} {n : Nat} {P : Nat -> Value -> Prop} {St : Nat -> Heap -> Prop} {bt : Nat -> Nat -> Bool} {kw : List (Str × Value)}
 (W : Walks prog w A.in1 I fp wr n P St) (jV : CmpOf prog w A.in1 .Gt P bt) (hS : S ∉ fp) : ∀ (k j : Nat) (s : Shared) (vb : Value) (c : Nat), k + (j + 1) = n -> St (j + 1) s.heap -> P (argBest bt j) vb ->
  s.heap.get? S = some { cls := .type "list", dict := none, data := .seq #[vb, vb] c, slots := #[] } ->
  (∀ v h' tk, P (argBest bt (n - 1)) v -> (∀ b o, b ∉ wr -> b ≠ S -> s.heap.get? b = some o -> h'.get? b = some o) -> R (.ok (.ret v)) { s with heap := h', toks := tk }) ->
  codeAny (model prog w) A (.builtin "max.loop" ⟨[.ref I, .none, .ref S], kw⟩) R s := by
 have nS : S ∉ wr := fun z => hS (W.sub _ z)
 have nm : (toString "max" ++ toString ".loop" : String) = "max.loop" := by decide
 intro k
 induction k with
 | zero =>
  intro j s vb c e st pb oS fin
  have e' : j + 1 = n := by walk_at "om"
  refine codeAny_builtin PySem.F.entry_max_loop ?_
  rw [Around.under_plainId PySem.F.plain_max_loop _]
  show wpAny _ A.in1 (seqItems? (.ref S) >>= _) _ _ s
  refine wpAny_bind (wpAny_seqItems oS rfl ?_)
  show wpAny _ A.in1 (tryCatch (pyNext (.ref I)) _ >>= _) _ _ s
  refine wpAny_bind (wpAny_tryCatch (W.done s _ _ (e' ▸ st) fun h1 tk kp => ?_))
  have bI := kp S _ nS oS
  show wpAny _ A.in1 (updateSeq S (fun _ => #[]) >>= _) _ _ _
  refine wpAny_bind ?_
  refine wpAny_updateSeq bI rfl (wpAny_bind (wpAny_letGo (wpAny_pure ?_)))
  exact fin vb _ tk (by rw [<- e']; exact pb) fun b o hw hb q => (Heap.get?_update_other _ _ (Ne.symm hb)).trans (kp b o hw q)
 | succ k ih =>
  intro j s vb c e st pb oS fin
  have lt : j + 1 < n := by walk_at "om"
  refine codeAny_builtin PySem.F.entry_max_loop ?_
  rw [Around.under_plainId PySem.F.plain_max_loop _]
  show wpAny _ A.in1 (seqItems? (.ref S) >>= _) _ _ s
  refine wpAny_bind (wpAny_seqItems oS rfl ?_)
  show wpAny _ A.in1 (tryCatch (pyNext (.ref I)) _ >>= _) _ _ s
  refine wpAny_bind (wpAny_tryCatch (W.item (j + 1) s _ _ lt st fun v h1 tk pv dm kp => ?_))
  have bI := kp S _ nS oS
  show wpAny _ A.in1 (tryCatch (holding [v, v] (richCompare .Gt v vb >>= _)) _ >>= _) _ _ _
  refine wpAny_bind (wpAny_tryCatch (wpAny_holding (wpAny_bind (jV (j + 1) (argBest bt j) v vb _ _ _ pv pb ?_))))
  refine wpAny_bind (wpAny_holding (wpAny_truthy_bool ?_))
  refine wpAny_bind (wpAny_letGo (wpAny_pure ?_))
  cases hb : bt (j + 1) (argBest bt j) with
  | true =>
   simp only [if_true]
   refine wpAny_bind ?_
   refine wpAny_updateSeq bI rfl (wpAny_bind (wpAny_letGo ?_))
   rw [nm]
   refine wpAny_pure ⟨plainId_quiet PySem.F.plain_max_loop _, ih (j + 1) _ v _ (by walk_at "om") (W.frame _ _ _ dm fun b hf o q => ?_) (by simp only [argBest, hb, if_true]; exact pv) (Heap.get?_update_self _ bI rfl) fun v2 h2 eL p2 k2 => ?_⟩
   ·exact (Heap.get?_update_other _ _ (fun z : S = b => hS (by rw [z]; exact hf))).trans q
   ·exact fin v2 h2 eL p2 fun b o hw cB q => k2 b o hw cB ((Heap.get?_update_other _ _ (Ne.symm cB)).trans (kp b o hw q))
  | false =>
   simp only [Bool.false_eq_true, if_false]
   refine wpAny_bind (wpAny_letGo ?_)
   rw [nm]
   refine wpAny_pure ⟨plainId_quiet PySem.F.plain_max_loop _, ih (j + 1) _ vb c (by walk_at "om") dm (by simp only [argBest, hb, Bool.false_eq_true, if_false]; exact pb) bI fun v2 h2 eL p2 k2 => ?_⟩
   exact fin v2 h2 eL p2 fun b o hw cB q => k2 b o hw cB (kp b o hw q)
theorem Li (a d : Value) : argsOk "max" ⟨[a], [("default", d)]⟩ := by unfold argsOk; kernel_rfl
theorem Lj {prog : Program} {w : World} {A : Around} {E : Value -> Shared -> Prop} {s : Shared} {l : Addr} {xs : Array (Int × Tok)} {d : Value} {Q : Value -> Shared -> Prop} (hh : A.handled = none) (hl : s.heap.IsList l (intItems xs))
 (h0 : xs.size = 0 -> ∀ h' tk, (∀ b o, s.heap.get? b = some o -> h'.get? b = some o) -> Q d { s with heap := h', toks := tk })
 (h1 : 0 < xs.size -> ∀ v h' tk, (intItems xs)[argBest (fun i j => decide (numAt xs i > numAt xs j)) (xs.size - 1)]? = some v -> (∀ b o, s.heap.get? b = some o -> h'.get? b = some o) -> Q v { s with heap := h', toks := tk }) :
 wpAny (model prog w) A (call (.builtin "max") [.ref l] [("default", d)]) Q E s := by
 have nm : (toString "max" ++ toString ".loop" : String) = "max.loop" := by decide
 refine Et PySem.F.kind_max PySem.F.plain_max PySem.F.entry_max (Li _ _) ?_
 show wpAny _ A.in1 (Builtin.Builtins.bindParams "max" ["key", "default"] 0 ⟨[], [("default", d)]⟩ >>= _) _ _ s
 refine wpAny_bind (wpAny_of_eq (show Builtin.Builtins.bindParams "max" ["key", "default"] 0 ⟨[], [("default", d)]⟩ = pure [none, some d] from rfl) ?_)
 refine wpAny_bind (wpAny_pure ?_)
 refine wpAny_bind (iter_intList hl fun s2 e2 st df yd => ?_)
 subst e2
 refine wpAny_bind (wpAny_newObj_type ?_)
 have W := Walks.list (prog := prog) (w := w) (A := A.in1) hh s.heap.objs.size l yd (intItems xs)
 generalize eP : (s.heap.push { cls := .type "list_iterator", data := .fields #[.ref l, .int 0 0] }) = P2 at st df ⊢
 have fO : P2.objs.size ∉ [s.heap.objs.size, l] := fun z => Nat.lt_irrefl _ (df _ z)
 have up : ∀ b o, s.heap.get? b = some o -> b ≠ P2.objs.size /\ b ∉ [s.heap.objs.size] /\ (P2.push { cls := .type "list", dict := none, data := .seq ([] : List Value).toArray }).get? b = some o := fun b o q => by
  have lt := Heap.lt_size q
  have q2 : P2.get? b = some o := by rw [<- eP]; exact Heap.get?_push_of_some _ q
  refine ⟨Nat.ne_of_lt (Heap.lt_size q2), fun z => ?_, Heap.get?_push_of_some _ q2⟩
  have : b = s.heap.objs.size := by simpa using z
  walk_at "om"
 rw [nm]
 refine wpAny_pure ⟨plainId_quiet PySem.F.plain_max_loop _, ?_⟩
 have oS : (P2.push { cls := .type "list", dict := none, data := .seq ([] : List Value).toArray }).get? P2.objs.size = some { cls := .type "list", dict := none, data := .seq #[] 0, slots := #[] } := Heap.get?_push_size _ rfl
 have di := W.frame 0 P2 (P2.push { cls := .type "list", dict := none, data := .seq ([] : List Value).toArray }) st fun b _ o q => Heap.get?_push_of_some _ q
 have nS : P2.objs.size ∉ [s.heap.objs.size] := fun z => fO (by simp at z; simp [z])
 by_cases hz : xs.size = 0
 ·have pO : (P2.push { cls := .type "list", dict := none, data := .seq ([] : List Value).toArray }).IsListIter s.heap.objs.size l (intItems xs).size /\ (P2.push { cls := .type "list", dict := none, data := .seq ([] : List Value).toArray }).IsList l (intItems xs) := by
   have : (intItems xs).size = 0 := by simpa [intItems] using hz
   rw [this]; exact di
  refine codeAny_builtin PySem.F.entry_max_loop ?_
  rw [Around.under_plainId PySem.F.plain_max_loop _]
  show wpAny _ A.in1 (seqItems? (.ref P2.objs.size) >>= _) _ _ _
  refine wpAny_bind (wpAny_seqItems oS rfl ?_)
  show wpAny _ A.in1 (tryCatch (pyNext (.ref s.heap.objs.size)) _ >>= _) _ _ _
  refine wpAny_bind (wpAny_tryCatch (W.done _ _ _ pO fun h2 tk kp => ?_))
  refine wpAny_bind (wpAny_rule (wpAny_pure ?_))
  exact h0 hz h2 tk fun b o q => kp b o (up b o q).2.1 (up b o q).2.2
 ·have hp : 0 < xs.size := by walk_at "om"
  have hn : 0 < (intItems xs).size := by simpa [intItems] using hp
  refine codeAny_builtin PySem.F.entry_max_loop ?_
  rw [Around.under_plainId PySem.F.plain_max_loop _]
  show wpAny _ A.in1 (seqItems? (.ref P2.objs.size) >>= _) _ _ _
  refine wpAny_bind (wpAny_seqItems oS rfl ?_)
  show wpAny _ A.in1 (tryCatch (pyNext (.ref s.heap.objs.size)) _ >>= _) _ _ _
  refine wpAny_bind (wpAny_tryCatch (W.item 0 _ _ _ hn di fun v h2 tk pv dm kp => ?_))
  have bI := kp _ _ nS oS
  show wpAny _ A.in1 (updateSeq P2.objs.size (fun _ => #[v, v]) >>= _) _ _ _
  refine wpAny_bind ?_
  refine wpAny_updateSeq bI rfl ?_
  rw [nm]
  refine wpAny_pure ⟨plainId_quiet PySem.F.plain_max_loop _, Lh W (CmpOf.ints_gt (numAt xs) (fun _ _ => intItems_at)) fO ((intItems xs).size - 1) 0 _ v _ (by walk_at "om") (W.frame _ _ _ dm fun b hf o q => ?_) pv (Heap.get?_update_self _ bI rfl) fun v2 h3 pP p3 k3 => ?_⟩
  ·exact (Heap.get?_update_other _ _ (fun z : P2.objs.size = b => fO (by rw [z]; exact hf))).trans q
  ·refine h1 hp v2 h3 pP (by simpa [intItems] using p3) fun b o q => ?_
   exact k3 b o (up b o q).2.1 (up b o q).1 ((Heap.get?_update_other _ _ (Ne.symm (up b o q).1)).trans (kp b o (up b o q).2.1 (up b o q).2.2))
theorem Ll {prog : Program} {w : World} {A : Around} {R : Result -> Shared -> Prop} {I S : Addr} {fp wr : List Addr} {n : Nat} {P : Nat -> Value -> Prop} {St : Nat -> Heap -> Prop} {bt : Nat -> Nat -> Bool} {kw : List (Str × Value)}
 (W : Walks prog w A.in1 I fp wr n P St) (jV : CmpOf prog w A.in1 .Lt P bt) (hS : S ∉ fp) : ∀ (k j : Nat) (s : Shared) (vb : Value) (c : Nat), k + (j + 1) = n -> St (j + 1) s.heap -> P (argBest bt j) vb ->
  s.heap.get? S = some { cls := .type "list", dict := none, data := .seq #[vb, vb] c, slots := #[] } ->
  (∀ v h' tk, P (argBest bt (n - 1)) v -> (∀ b o, b ∉ wr -> b ≠ S -> s.heap.get? b = some o -> h'.get? b = some o) -> R (.ok (.ret v)) { s with heap := h', toks := tk }) ->
  codeAny (model prog w) A (.builtin "min.loop" ⟨[.ref I, .none, .ref S], kw⟩) R s := by
 have nS : S ∉ wr := fun z => hS (W.sub _ z)
 have nm : (toString "min" ++ toString ".loop" : String) = "min.loop" := by decide
 intro k
 induction k with
 | zero =>
  intro j s vb c e st pb oS fin
  have e' : j + 1 = n := by walk_at "om"
  refine codeAny_builtin PySem.F.entry_min_loop ?_
  rw [Around.under_plainId PySem.F.plain_min_loop _]
  show wpAny _ A.in1 (seqItems? (.ref S) >>= _) _ _ s
  refine wpAny_bind (wpAny_seqItems oS rfl ?_)
  show wpAny _ A.in1 (tryCatch (pyNext (.ref I)) _ >>= _) _ _ s
  refine wpAny_bind (wpAny_tryCatch (W.done s _ _ (e' ▸ st) fun h1 tk kp => ?_))
  have bI := kp S _ nS oS
  show wpAny _ A.in1 (updateSeq S (fun _ => #[]) >>= _) _ _ _
  refine wpAny_bind ?_
  refine wpAny_updateSeq bI rfl (wpAny_bind (wpAny_letGo (wpAny_pure ?_)))
  exact fin vb _ tk (by rw [<- e']; exact pb) fun b o hw hb q => (Heap.get?_update_other _ _ (Ne.symm hb)).trans (kp b o hw q)
 | succ k ih =>
  intro j s vb c e st pb oS fin
  have lt : j + 1 < n := by walk_at "om"
  refine codeAny_builtin PySem.F.entry_min_loop ?_
  rw [Around.under_plainId PySem.F.plain_min_loop _]
  show wpAny _ A.in1 (seqItems? (.ref S) >>= _) _ _ s
  refine wpAny_bind (wpAny_seqItems oS rfl ?_)
  show wpAny _ A.in1 (tryCatch (pyNext (.ref I)) _ >>= _) _ _ s
  refine wpAny_bind (wpAny_tryCatch (W.item (j + 1) s _ _ lt st fun v h1 tk pv dm kp => ?_))
  have bI := kp S _ nS oS
  show wpAny _ A.in1 (tryCatch (holding [v, v] (richCompare .Lt v vb >>= _)) _ >>= _) _ _ _
  refine wpAny_bind (wpAny_tryCatch (wpAny_holding (wpAny_bind (jV (j + 1) (argBest bt j) v vb _ _ _ pv pb ?_))))
  refine wpAny_bind (wpAny_holding (wpAny_truthy_bool ?_))
  refine wpAny_bind (wpAny_letGo (wpAny_pure ?_))
  cases hb : bt (j + 1) (argBest bt j) with
  | true =>
   simp only [if_true]
   refine wpAny_bind ?_
   refine wpAny_updateSeq bI rfl (wpAny_bind (wpAny_letGo ?_))
   rw [nm]
   refine wpAny_pure ⟨plainId_quiet PySem.F.plain_min_loop _, ih (j + 1) _ v _ (by walk_at "om") (W.frame _ _ _ dm fun b hf o q => ?_) (by simp only [argBest, hb, if_true]; exact pv) (Heap.get?_update_self _ bI rfl) fun v2 h2 eL p2 k2 => ?_⟩
   ·exact (Heap.get?_update_other _ _ (fun z : S = b => hS (by rw [z]; exact hf))).trans q
   ·exact fin v2 h2 eL p2 fun b o hw cB q => k2 b o hw cB ((Heap.get?_update_other _ _ (Ne.symm cB)).trans (kp b o hw q))
  | false =>
   simp only [Bool.false_eq_true, if_false]
   refine wpAny_bind (wpAny_letGo ?_)
   rw [nm]
   refine wpAny_pure ⟨plainId_quiet PySem.F.plain_min_loop _, ih (j + 1) _ vb c (by walk_at "om") dm (by simp only [argBest, hb, Bool.false_eq_true, if_false]; exact pb) bI fun v2 h2 eL p2 k2 => ?_⟩
   exact fin v2 h2 eL p2 fun b o hw cB q => k2 b o hw cB (kp b o hw q)
theorem Lm (a d : Value) : argsOk "min" ⟨[a], [("default", d)]⟩ := by unfold argsOk; kernel_rfl
theorem Ln {prog : Program} {w : World} {A : Around} {E : Value -> Shared -> Prop} {s : Shared} {l : Addr} {xs : Array (Int × Tok)} {d : Value} {Q : Value -> Shared -> Prop} (hh : A.handled = none) (hl : s.heap.IsList l (intItems xs))
 (h0 : xs.size = 0 -> ∀ h' tk, (∀ b o, s.heap.get? b = some o -> h'.get? b = some o) -> Q d { s with heap := h', toks := tk })
 (h1 : 0 < xs.size -> ∀ v h' tk, (intItems xs)[argBest (fun i j => decide (numAt xs i < numAt xs j)) (xs.size - 1)]? = some v -> (∀ b o, s.heap.get? b = some o -> h'.get? b = some o) -> Q v { s with heap := h', toks := tk }) :
 wpAny (model prog w) A (call (.builtin "min") [.ref l] [("default", d)]) Q E s := by
 have nm : (toString "min" ++ toString ".loop" : String) = "min.loop" := by decide
 refine Et PySem.F.kind_min PySem.F.plain_min PySem.F.entry_min (Lm _ _) ?_
 show wpAny _ A.in1 (Builtin.Builtins.bindParams "min" ["key", "default"] 0 ⟨[], [("default", d)]⟩ >>= _) _ _ s
 refine wpAny_bind (wpAny_of_eq (show Builtin.Builtins.bindParams "min" ["key", "default"] 0 ⟨[], [("default", d)]⟩ = pure [none, some d] from rfl) ?_)
 refine wpAny_bind (wpAny_pure ?_)
 refine wpAny_bind (iter_intList hl fun s2 e2 st df yd => ?_)
 subst e2
 refine wpAny_bind (wpAny_newObj_type ?_)
 have W := Walks.list (prog := prog) (w := w) (A := A.in1) hh s.heap.objs.size l yd (intItems xs)
 generalize eP : (s.heap.push { cls := .type "list_iterator", data := .fields #[.ref l, .int 0 0] }) = P2 at st df ⊢
 have fO : P2.objs.size ∉ [s.heap.objs.size, l] := fun z => Nat.lt_irrefl _ (df _ z)
 have up : ∀ b o, s.heap.get? b = some o -> b ≠ P2.objs.size /\ b ∉ [s.heap.objs.size] /\ (P2.push { cls := .type "list", dict := none, data := .seq ([] : List Value).toArray }).get? b = some o := fun b o q => by
  have lt := Heap.lt_size q
  have q2 : P2.get? b = some o := by rw [<- eP]; exact Heap.get?_push_of_some _ q
  refine ⟨Nat.ne_of_lt (Heap.lt_size q2), fun z => ?_, Heap.get?_push_of_some _ q2⟩
  have : b = s.heap.objs.size := by simpa using z
  walk_at "om"
 rw [nm]
 refine wpAny_pure ⟨plainId_quiet PySem.F.plain_min_loop _, ?_⟩
 have oS : (P2.push { cls := .type "list", dict := none, data := .seq ([] : List Value).toArray }).get? P2.objs.size = some { cls := .type "list", dict := none, data := .seq #[] 0, slots := #[] } := Heap.get?_push_size _ rfl
 have di := W.frame 0 P2 (P2.push { cls := .type "list", dict := none, data := .seq ([] : List Value).toArray }) st fun b _ o q => Heap.get?_push_of_some _ q
 have nS : P2.objs.size ∉ [s.heap.objs.size] := fun z => fO (by simp at z; simp [z])
 by_cases hz : xs.size = 0
 ·have pO : (P2.push { cls := .type "list", dict := none, data := .seq ([] : List Value).toArray }).IsListIter s.heap.objs.size l (intItems xs).size /\ (P2.push { cls := .type "list", dict := none, data := .seq ([] : List Value).toArray }).IsList l (intItems xs) := by
   have : (intItems xs).size = 0 := by simpa [intItems] using hz
   rw [this]; exact di
  refine codeAny_builtin PySem.F.entry_min_loop ?_
  rw [Around.under_plainId PySem.F.plain_min_loop _]
  show wpAny _ A.in1 (seqItems? (.ref P2.objs.size) >>= _) _ _ _
  refine wpAny_bind (wpAny_seqItems oS rfl ?_)
  show wpAny _ A.in1 (tryCatch (pyNext (.ref s.heap.objs.size)) _ >>= _) _ _ _
  refine wpAny_bind (wpAny_tryCatch (W.done _ _ _ pO fun h2 tk kp => ?_))
  refine wpAny_bind (wpAny_rule (wpAny_pure ?_))
  exact h0 hz h2 tk fun b o q => kp b o (up b o q).2.1 (up b o q).2.2
 ·have hp : 0 < xs.size := by walk_at "om"
  have hn : 0 < (intItems xs).size := by simpa [intItems] using hp
  refine codeAny_builtin PySem.F.entry_min_loop ?_
  rw [Around.under_plainId PySem.F.plain_min_loop _]
  show wpAny _ A.in1 (seqItems? (.ref P2.objs.size) >>= _) _ _ _
  refine wpAny_bind (wpAny_seqItems oS rfl ?_)
  show wpAny _ A.in1 (tryCatch (pyNext (.ref s.heap.objs.size)) _ >>= _) _ _ _
  refine wpAny_bind (wpAny_tryCatch (W.item 0 _ _ _ hn di fun v h2 tk pv dm kp => ?_))
  have bI := kp _ _ nS oS
  show wpAny _ A.in1 (updateSeq P2.objs.size (fun _ => #[v, v]) >>= _) _ _ _
  refine wpAny_bind ?_
  refine wpAny_updateSeq bI rfl ?_
  rw [nm]
  refine wpAny_pure ⟨plainId_quiet PySem.F.plain_min_loop _, Ll W (CmpOf.ints_lt (numAt xs) (fun _ _ => intItems_at)) fO ((intItems xs).size - 1) 0 _ v _ (by walk_at "om") (W.frame _ _ _ dm fun b hf o q => ?_) pv (Heap.get?_update_self _ bI rfl) fun v2 h3 pP p3 k3 => ?_⟩
  ·exact (Heap.get?_update_other _ _ (fun z : P2.objs.size = b => fO (by rw [z]; exact hf))).trans q
  ·refine h1 hp v2 h3 pP (by simpa [intItems] using p3) fun b o q => ?_
   exact k3 b o (up b o q).2.1 (up b o q).1 ((Heap.get?_update_other _ _ (Ne.symm (up b o q).1)).trans (kp b o (up b o q).2.1 (up b o q).2.2))
noncomputable def ip : List Int -> Int
 | [] => 0
 | x :: r => r.foldl (fun b y => if y > b then y else b) x
noncomputable def iq : List Int -> Int
 | [] => 0
 | x :: r => r.foldl (fun b y => if y < b then y else b) x
theorem Eu : ∀ (r : List Int) (b : Int), b <= r.foldl (fun b y => if y > b then y else b) b /\ (∀ y ∈ r, y <= r.foldl (fun b y => if y > b then y else b) b) /\ (r.foldl (fun b y => if y > b then y else b) b = b ∨ r.foldl (fun b y => if y > b then y else b) b ∈ r)
 | [], b => ⟨Int.le_refl _, fun _ z => (nomatch z), .inl rfl⟩
 | x :: r, b => by
  simp only [List.foldl_cons]
  obtain ⟨h1, h2, h3⟩ := Eu r (if x > b then x else b)
  refine ⟨?_, fun y hy => ?_, ?_⟩
  ·refine Int.le_trans ?_ h1; split <;> omega
  ·rcases List.mem_cons.mp hy with rfl | hy
   ·refine Int.le_trans ?_ h1; split <;> omega
   ·exact h2 y hy
  ·rcases h3 with h3 | h3
   ·rw [h3]; split
    ·right; simp
    ·left; rfl
   ·right; exact List.mem_cons_of_mem _ h3
theorem Ew : ∀ (r : List Int) (b : Int), r.foldl (fun b y => if y < b then y else b) b <= b /\ (∀ y ∈ r, r.foldl (fun b y => if y < b then y else b) b <= y) /\ (r.foldl (fun b y => if y < b then y else b) b = b ∨ r.foldl (fun b y => if y < b then y else b) b ∈ r)
 | [], b => ⟨Int.le_refl _, fun _ z => (nomatch z), .inl rfl⟩
 | x :: r, b => by
  simp only [List.foldl_cons]
  obtain ⟨h1, h2, h3⟩ := Ew r (if x < b then x else b)
  refine ⟨?_, fun y hy => ?_, ?_⟩
  ·refine Int.le_trans h1 ?_; split <;> omega
  ·rcases List.mem_cons.mp hy with rfl | hy
   ·refine Int.le_trans h1 ?_; split <;> omega
   ·exact h2 y hy
  ·rcases h3 with h3 | h3
   ·rw [h3]; split
    ·right; simp
    ·left; rfl
   ·right; exact List.mem_cons_of_mem _ h3
theorem Lo {ns : List Int} (h : ns ≠ []) : ip ns ∈ ns /\ ∀ y ∈ ns, y <= ip ns := by
 cases ns with
 | nil => exact absurd rfl h
 | cons x r =>
  obtain ⟨h1, h2, h3⟩ := Eu r x
  refine ⟨?_, fun y hy => ?_⟩
  ·rcases h3 with h3 | h3
   ·show r.foldl _ x ∈ _
    rw [h3]; exact .head _
   ·exact .tail _ h3
  ·rcases List.mem_cons.mp hy with rfl | hy
   ·exact h1
   ·exact h2 y hy
theorem Lp {ns : List Int} (h : ns ≠ []) : iq ns ∈ ns /\ ∀ y ∈ ns, iq ns <= y := by
 cases ns with
 | nil => exact absurd rfl h
 | cons x r =>
  obtain ⟨h1, h2, h3⟩ := Ew r x
  refine ⟨?_, fun y hy => ?_⟩
  ·rcases h3 with h3 | h3
   ·show r.foldl _ x ∈ _
    rw [h3]; exact .head _
   ·exact .tail _ h3
  ·rcases List.mem_cons.mp hy with rfl | hy
   ·exact h1
   ·exact h2 y hy
theorem ye : ∀ {ns : List Int} {af : List Value}, Vals (ns.map V.int) af -> ∃ xs : Array (Int × Tok), af.toArray = intItems xs /\ xs.toList.map (·.1) = ns
 | [], _, .nil => ⟨#[], by simp [intItems], rfl⟩
 | n :: ns, _, .cons (l₂ := af) r t => by
  obtain ⟨xs, e1, e2⟩ := ye (ns := ns) t
  obtain ⟨tk, rfl⟩ := r
  refine ⟨((n, tk) :: xs.toList).toArray, ?_, ?_⟩
  ·have : af = xs.toList.map (fun p => Value.int p.1 p.2) := by
    have := congrArg Array.toList e1
    simpa [intItems] using this
   simp [intItems, this]
  ·simp [e2]
theorem Ex {xs : Array (Int × Tok)} {ns : List Int} (e : xs.toList.map (·.1) = ns) {i : Nat} (hi : i < xs.size) : numAt xs i ∈ ns /\ numAt xs i = ns.getD i 0 := by
 subst e
 unfold numAt
 rw [Array.getElem?_eq_getElem hi]
 refine ⟨List.mem_map.mpr ⟨xs[i], by simp, rfl⟩, ?_⟩
 simp [hi]
theorem Ey {xs : Array (Int × Tok)} {ns : List Int} (e : xs.toList.map (·.1) = ns) {y : Int} (hy : y ∈ ns) : ∃ i, i < xs.size /\ numAt xs i = y := by
 subst e
 obtain ⟨p, hp, rfl⟩ := List.mem_map.mp hy
 obtain ⟨i, hi, e⟩ := List.mem_iff_getElem.mp hp
 refine ⟨i, by simpa using hi, ?_⟩
 unfold numAt
 have aZ : i < xs.size := by simpa using hi
 rw [Array.getElem?_eq_getElem aZ]
 have : xs[i] = p := by simpa using e
 rw [this]; rfl
theorem Lq {xs : Array (Int × Tok)} {ns : List Int} (e : xs.toList.map (·.1) = ns) (h : 0 < xs.size) : numAt xs (argBest (fun i j => decide (numAt xs i > numAt xs j)) (xs.size - 1)) = ip ns := by
 obtain ⟨h1, h2⟩ := argBest_gt (numAt xs) (xs.size - 1)
 have dJ : ns ≠ [] := by
  intro z; subst z
  have q := congrArg List.length e
  rw [List.length_map, Array.length_toList, List.length_nil] at q
  omega
 obtain ⟨m1, m2⟩ := Lo dJ
 refine Int.le_antisymm (m2 _ (Ex e (by omega)).1) ?_
 obtain ⟨i, hi, ei⟩ := Ey e m1
 rw [<- ei]; exact h2 i (by omega)
theorem Lr {xs : Array (Int × Tok)} {ns : List Int} (e : xs.toList.map (·.1) = ns) (h : 0 < xs.size) : numAt xs (argBest (fun i j => decide (numAt xs i < numAt xs j)) (xs.size - 1)) = iq ns := by
 obtain ⟨h1, h2⟩ := argBest_lt (numAt xs) (xs.size - 1)
 have dJ : ns ≠ [] := by
  intro z; subst z
  have q := congrArg List.length e
  rw [List.length_map, Array.length_toList, List.length_nil] at q
  omega
 obtain ⟨m1, m2⟩ := Lp dJ
 refine Int.le_antisymm ?_ (m2 _ (Ex e (by omega)).1)
 obtain ⟨i, hi, ei⟩ := Ey e m1
 rw [<- ei]; exact h2 i (by omega)
noncomputable def yf (R : V -> Hp -> Prop) : List V -> Hp -> Prop
 | [x], H => R x H
 | _, _ => False
theorem Ez {R : V -> Hp -> Prop} : ∀ {vs : List V} {H : Hp}, yf R vs H -> ∃ x, vs = [x] /\ R x H
 | [x], _, h => ⟨x, rfl, h⟩
section
variable {X : Cx} {e d : Expr} {te td : TE} {p pos kp : Pos}
noncomputable def ir (f : List Int -> Int) : List Int -> V -> V
 | [], y => y
 | n :: ns, _ => .int (f (n :: ns))
theorem EA {f : List Int -> Int} {ns : List Int} {y : V} (h : ns ≠ []) : ir f ns y = .int (f ns) := by
 cases ns with
 | nil => exact absurd rfl h
 | cons _ _ => rfl
noncomputable def lR (K : PySem.W.Frag) (f : List Int -> Int) (te td : TE) : TE := fun σ H Q => te σ H fun x H1 => td σ H1 fun y H2 => ∃ a ns, x = .ref a /\ ai K H2 a (ns.map V.int) /\ Q (ir f ns y) H2
theorem Ls (hc : X.calm = true) (hg : Gl X "max") (hm : X.mg "max" = none) (he : PE X e te) (hd : PE X d td)
 (hs : starEach [e] X.env = (false, eval e X.env) :: starEach [] X.env := by rfl) (hq : backTo pos (starEach [e] X.env) = (false, eval e X.env) :: backTo pos (starEach [] X.env) := by rfl) :
 PE X (.Call (.Name "max" p) [e] [⟨some "default", d, kp⟩] pos) (lR X.K ip te td) := by
 intro pins s σ H Q I h
 refine wpAny_Call_Name_kw (fG I hg hm x8 ?_ (by decide))
 refine callWith_kw (aq ((aa he ah hs) pos pins s σ H (yf fun x H1 => td σ H1 fun y H2 => ∃ (a : Addr) (ns : List Int), x = .ref a /\ ai X.K H2 a (ns.map V.int) /\ Q (ir ip ns y) H2) I h) fun us s1 ⟨vs, H1, I1, r, q⟩ => ?_) hq (by rw [hs]; rfl)
 ·obtain ⟨x, rfl, q⟩ := Ez q
  obtain ⟨u, rfl, ru⟩ := vals1 r
  refine kws_cons (aq (hd pins s1 σ H1 _ I1 q) fun w s2 ⟨y, H2, I2, ry, a, ns, ex, hS, q1⟩ => kws_nil ?_)
  subst ex
  cases ru
  obtain ⟨af, rv, hp, _⟩ := I2.list hS
  obtain ⟨xs, e1, e2⟩ := ye rv
  obtain ⟨o, n, ho, dq, _, hdt⟩ := hp
  have hl : s2.heap.IsList a (intItems xs) := ⟨o, ho, dq, n, by rw [hdt, e1]⟩
  have len : xs.size = ns.length := by rw [<- e2, List.length_map]; simp
  show wpAny _ X.A (call (.builtin "max") [.ref a] [("default", w)]) _ _ s2
  refine Lj (I2.ok.hd hc) hl (fun hz h' tk hk => ⟨y, H2, I2.kept hk, ry, ?_⟩) fun hp v h' tk hv hk => ⟨.int (ip ns), H2, I2.kept hk, ?_, ?_⟩
  ·have z : ns = [] := List.length_eq_zero_iff.mp (by walk_at "om")
   rw [z] at q1
   exact q1
  ·obtain ⟨t, rfl⟩ := intItems_at hv
   exact ⟨t, by rw [Lq e2 hp]⟩
  ·rw [EA (fun z => by subst z; rw [List.length_nil] at len; omega)] at q1
   exact q1
theorem Lu (hc : X.calm = true) (hg : Gl X "min") (hm : X.mg "min" = none) (he : PE X e te) (hd : PE X d td)
 (hs : starEach [e] X.env = (false, eval e X.env) :: starEach [] X.env := by rfl) (hq : backTo pos (starEach [e] X.env) = (false, eval e X.env) :: backTo pos (starEach [] X.env) := by rfl) :
 PE X (.Call (.Name "min" p) [e] [⟨some "default", d, kp⟩] pos) (lR X.K iq te td) := by
 intro pins s σ H Q I h
 refine wpAny_Call_Name_kw (fG I hg hm jP ?_ (by decide))
 refine callWith_kw (aq ((aa he ah hs) pos pins s σ H (yf fun x H1 => td σ H1 fun y H2 => ∃ (a : Addr) (ns : List Int), x = .ref a /\ ai X.K H2 a (ns.map V.int) /\ Q (ir iq ns y) H2) I h) fun us s1 ⟨vs, H1, I1, r, q⟩ => ?_) hq (by rw [hs]; rfl)
 ·obtain ⟨x, rfl, q⟩ := Ez q
  obtain ⟨u, rfl, ru⟩ := vals1 r
  refine kws_cons (aq (hd pins s1 σ H1 _ I1 q) fun w s2 ⟨y, H2, I2, ry, a, ns, ex, hS, q1⟩ => kws_nil ?_)
  subst ex
  cases ru
  obtain ⟨af, rv, hp, _⟩ := I2.list hS
  obtain ⟨xs, e1, e2⟩ := ye rv
  obtain ⟨o, n, ho, dq, _, hdt⟩ := hp
  have hl : s2.heap.IsList a (intItems xs) := ⟨o, ho, dq, n, by rw [hdt, e1]⟩
  have len : xs.size = ns.length := by rw [<- e2, List.length_map]; simp
  show wpAny _ X.A (call (.builtin "min") [.ref a] [("default", w)]) _ _ s2
  refine Ln (I2.ok.hd hc) hl (fun hz h' tk hk => ⟨y, H2, I2.kept hk, ry, ?_⟩) fun hp v h' tk hv hk => ⟨.int (iq ns), H2, I2.kept hk, ?_, ?_⟩
  ·have z : ns = [] := List.length_eq_zero_iff.mp (by walk_at "om")
   rw [z] at q1
   exact q1
  ·obtain ⟨t, rfl⟩ := intItems_at hv
   exact ⟨t, by rw [Lr e2 hp]⟩
  ·rw [EA (fun z => by subst z; rw [List.length_nil] at len; omega)] at q1
   exact q1
end
end Gz
namespace Gz
open PySem PySem.Spec PyProof.Rows L2
local macro_rules | `(tactic| walk_at "om") => `(tactic| ((try simp only [PySem.Addr] at *); omega))
theorem EB : ∀ {a b : List Int}, HT.lexLt a b = true -> HT.lexLt b a = false
 | [], [], h => by cases h
 | [], _ :: _, _ => rfl
 | _ :: _, [], h => by cases h
 | x :: a, y :: b, h => by
  rw [HT.pk] at h ⊢
  by_cases e : x = y
  ·subst e
   rw [if_pos rfl] at h ⊢
   exact EB h
  ·rw [if_neg e] at h
   rw [if_neg (Ne.symm e)]
   have : x < y := by simpa using h
   simpa using (by walk_at "om" : ¬ y < x)
theorem EC : ∀ {a b c : List Int}, HT.lexLt b a = false -> HT.lexLt c b = false -> HT.lexLt c a = false
 | [], [], [], _, _ => rfl
 | [], [], _ :: _, _, _ => rfl
 | [], _ :: _, [], _, h => by cases h
 | [], _ :: _, _ :: _, _, _ => rfl
 | _ :: _, [], _, h, _ => by cases h
 | _ :: _, _ :: _, [], _, h => by cases h
 | x :: a, y :: b, z :: c, h1, h2 => by
  rw [HT.pk] at h1 h2 ⊢
  by_cases e1 : y = x
  ·subst e1
   rw [if_pos rfl] at h1
   by_cases e2 : z = y
   ·subst e2
    rw [if_pos rfl] at h2 ⊢
    exact EC h1 h2
   ·rw [if_neg e2] at h2 ⊢
    exact h2
  ·rw [if_neg e1] at h1
   have ED : ¬ y < x := by simpa using h1
   by_cases e2 : z = y
   ·subst e2
    rw [if_neg e1]; exact h1
   ·rw [if_neg e2] at h2
    have EE : ¬ z < y := by simpa using h2
    rw [if_neg (by walk_at "om")]
    simpa using (by walk_at "om" : ¬ z < x)
section
variable {prog : Program} {w : World} {A : Around} {E : Value -> Shared -> Prop} {s : Shared}
theorem Lv {a b : Int} {t u : Tok} {Q : Bool -> Shared -> Prop} (h : Q (a == b) s) : wpAny (model prog w) A (eqBool (.int a t) (.int b u)) Q E s := SeqAt.EqAt.int_int a t b u prog w E Q h
theorem Lw {b fin : Bool} {Q : Bool -> Shared -> Prop} : ∀ {ns ms : List Int} {us ws : List Value} {i : Nat}, IntsAre us ns -> IntsAre ws ms -> fin = decide (ns.length < ms.length) -> Q (HT.lexLt ns ms) s -> PySem.W.KatLex prog w A b fin Q (us.zip ws) i s := by
 intro ns
 induction ns with
 | nil =>
  intro ms us ws i r q e h
  cases r
  cases q with
  | nil => subst e; exact h
  | cons => subst e; exact h
 | cons n ns ih =>
  intro ms us ws i r q e h
  cases r with
  | cons _ t r =>
   cases q with
   | nil => subst e; exact h
   | cons m t' q =>
    rw [List.zip_cons_cons]
    refine PySem.W.kat_cons (Lv (PySem.W.kat_go (fun hh => PySem.W.kat_yes ?_) fun hh => PySem.W.kat_no ?_))
    ·have e1 : n = m := by simpa using hh
     subst e1
     rw [HT.pk, if_pos rfl] at h
     exact ih r q (by subst e; simp) h
    ·have e1 : n ≠ m := by simpa using hh
     rw [HT.pk, if_neg e1] at h
     cases (b && i == 0) with
     | true => exact oneLt_int h
     | false => exact PySem.W.kat_one _ _ (lt_int h)
end
noncomputable def EF (sp : Sp) : List V -> List V -> Hp -> (List V -> Hp -> Prop) -> Prop
 | [], ks, H, Q => Q ks H
 | x :: r, ks, H, Q => sp [x] H (fun k H1 => EF sp r (ks ++ [k]) H1 Q) E0
noncomputable def cy (K : PySem.W.Frag) (H : Hp) : List V -> List (List Int) -> Prop
 | [], [] => True
 | k :: ks, n :: ns => (∃ p, k = .ref p /\ ar K H p (n.map V.int) /\ n ≠ []) /\ cy K H ks ns
 | _, _ => False
theorem cy.len {K : PySem.W.Frag} {H : Hp} : ∀ {ks : List V} {ns : List (List Int)}, cy K H ks ns -> ks.length = ns.length
 | [], [], _ => rfl
 | _ :: _, _ :: _, h => by simp [cy.len h.2]
 | [], _ :: _, h => h.elim
 | _ :: _, [], h => h.elim
theorem cy.get {K : PySem.W.Frag} {H : Hp} : ∀ {ks : List V} {ns : List (List Int)} {i : Nat} {k : V}, cy K H ks ns -> ks[i]? = some k -> ∃ p, k = .ref p /\ ar K H p ((ns.getD i []).map V.int)
 | [], [], _, _, _, e => by simp at e
 | k :: _, n :: _, 0, _, h, e => by
  simp at e; subst e
  obtain ⟨⟨p, a, b, _⟩, _⟩ := h
  exact ⟨p, a, b⟩
 | _ :: _, _ :: _, i + 1, _, h, e => by
  have := cy.get (i := i) h.2 (by simpa using e)
  simpa using this
 | [], _ :: _, _, _, h, _ => h.elim
 | _ :: _, [], _, _, h, _ => h.elim
section
variable {X : Cx} {pins : List (Addr × Obj)} {σ : L2.St} {H : Hp} {s : Shared}
theorem cy.cv (I : Inv X pins σ H s) : ∀ {ks : List V} {ns : List (List Int)} {us : List Value}, cy X.K H ks ns -> Vals ks us -> ∃ fs, PySem.W.KatTups s.heap us fs /\ fs.length = us.length /\ ∀ v ∈ fs, ∃ i t, v = .int i t
 | [], [], _, _, .nil => ⟨[], trivial, rfl, fun _ z => (nomatch z)⟩
 | k :: ks, n :: ns, _, h, .cons r rs => by
  obtain ⟨⟨p, rfl, hp, hn⟩, h⟩ := h
  cases r
  obtain ⟨fs, a, b, c⟩ := cy.cv I h rs
  obtain ⟨af, rv, ⟨o, ho, hc, m, hd⟩, _⟩ := I.tuple hp
  cases n with
  | nil => exact absurd rfl hn
  | cons z zs =>
   cases rv with
   | cons r1 r2 =>
    obtain ⟨t, rfl⟩ := r1
    refine ⟨.int z t :: fs, PySem.W.KatTups.cons ho hc hd (by simp) a, by simp [b], fun v hv => ?_⟩
    rcases List.mem_cons.mp hv with rfl | hv
    ·exact ⟨_, _, rfl⟩
    ·exact c v hv
 | [], _ :: _, _, h, _ => h.elim
 | _ :: _, [], _, h, _ => h.elim
noncomputable def cb (kis : List (List Int)) (i j : Nat) : Bool := HT.lexLt (kis.getD i []) (kis.getD j [])
theorem lS (kis : List (List Int)) : Ord (cb kis) := ⟨fun h => EB h, fun h1 h2 => EC h1 h2⟩
noncomputable def bJ {α : Type} (kis : List (List Int)) (d : α) (as : List α) : List α := (bT (cb kis) as.length).toList.map fun i => as.getD i d
theorem pQ {α : Type} {kis : List (List Int)} {d : α} {as : List α} : (bJ kis d as).Perm as := by
 have h := (pN (n := as.length) (lS kis)).1
 have q := h.map (fun i => as.getD i d)
 have self : (List.range as.length).map (fun i => as.getD i d) = as := by
  apply List.ext_getElem
  ·simp
  ·intro i h1 h2
   simp [List.getD_eq_getElem?_getD, h2]
 rw [self] at q
 exact q
theorem EG {α : Type} {kis : List (List Int)} {d : α} {as : List α} : (bJ kis d as).length = as.length := pQ.length_eq
theorem yg {α : Type} {kis : List (List Int)} {d : α} {as : List α} {f : α -> List Int} (hk : kis = as.map f) : (bJ kis d as).Pairwise (fun a b => HT.lexLt (f b) (f a) = false) := by
 obtain ⟨hp, hs⟩ := pN (n := as.length) (lS kis)
 have sz := hp.size
 unfold bJ
 rw [List.pairwise_map]
 refine List.pairwise_iff_getElem.mpr fun i j hi hj dI => ?_
 have aZ : i < (bT (cb kis) as.length).size := by simpa using hi
 have yh : j < (bT (cb kis) as.length).size := by simpa using hj
 have q := hs i j (by omega) (by omega)
 have e1 : (bT (cb kis) as.length).getD i 0 = (bT (cb kis) as.length)[i] := by simp [Array.getD, aZ]
 have e2 : (bT (cb kis) as.length).getD j 0 = (bT (cb kis) as.length)[j] := by simp [Array.getD, yh]
 have l1 := bx.below hp (i := i) (by omega)
 have l2 := bx.below hp (i := j) (by omega)
 rw [e1, e2] at q
 rw [e1] at l1
 rw [e2] at l2
 have q2 : HT.lexLt (kis.getD (bT (cb kis) as.length)[j] []) (kis.getD (bT (cb kis) as.length)[i] []) = false := q
 have g : ∀ k, k < as.length -> kis.getD k [] = f (as.getD k d) := fun k gD => by
  subst hk
  simp [List.getD_eq_getElem?_getD, gD]
 simp only [Array.getElem_toList]
 rw [g _ l1, g _ l2] at q2
 exact q2
theorem Lx {xs : List V} {vs : List Value} {kis : List (List Int)} (r : Vals xs vs) : Vals (bJ kis .non xs) ((bT (cb kis) xs.length).toList.map fun i => vs.getD i Value.none) := by
 have hp := (pN (n := xs.length) (lS kis)).1
 have gen : ∀ l : List Nat, (∀ i ∈ l, i < xs.length) -> Vals (l.map fun i => xs.getD i .non) (l.map fun i => vs.getD i Value.none) := by
  intro l
  induction l with
  | nil => intro _; exact .nil
  | cons i l ih =>
   intro h
   have hi := h i (.head _)
   refine .cons ?_ (ih fun j hj => h j (.tail _ hj))
   have e : xs[i]? = some xs[i] := List.getElem?_eq_getElem hi
   obtain ⟨u, eu, ru⟩ := r.get e
   show RelV (xs.getD i .non) (vs.getD i Value.none)
   rw [List.getD_eq_getElem?_getD, List.getD_eq_getElem?_getD, eu, e]
   exact ru
 exact gen _ fun i hi => by simpa using hp.mem_iff.mp hi
end
section
variable {X : Cx} {pins : List (Addr × Obj)} {σ : L2.St} {H : Hp} {s : Shared} {CX : cK} {k : Nat} {fa a : Addr} {fd : FuncData} {y : Str} {sp : Sp} {xs : List V} {Q : VK}
noncomputable def Ly (K : PySem.W.Frag) (sp : Sp) (x : V) (H1 : Hp) (Q : VK) : Prop := ∃ (a : Addr) (xs : List V), x = .ref a /\ ai K H1 a xs /\ xs.length < 64 /\ EF sp xs [] H1 fun ks H2 => ∃ kis, cy K H2 ks kis /\ ∀ l, H2 l = none -> Q (.ref l) (upd H2 l (.lst (bJ kis .non xs)))
noncomputable def tE (K : PySem.W.Frag) (sp : Sp) (te : TE) : TE := fun σ H Q => te σ H fun x H1 => Ly K sp x H1 Q
end
end Gz
namespace Gz
open PySem PySem.Spec PyProof.Rows L2
local macro_rules | `(tactic| walk_at "om") => `(tactic| ((try simp only [PySem.Addr] at *); omega))
inductive fP (X : Cx) (scope : Scope) (cl : List (Str × Addr)) : List Nat -> List Str -> Prop where
 | nil : fP X scope cl [] []
 | cons {j : Nat} {y : Str} {c : Addr} {js : List Nat} {ys : List Str} (hN : X.N[j]? = some y) (hk : X.env.kindOf y = some .cell) (h1 : cl.lookup y = some c) (h2 : X.env.cells.lookup y = some c) (h : fP X scope cl js ys) : fP X scope cl (j :: js) (y :: ys)
inductive iu (X : Cx) : List (Str × Addr) -> Prop where
 | nil : iu X []
 | cons {n : Str} {a : Addr} {r : List (Str × Addr)} (h : X.env.cells.lookup n = some a) (t : iu X r) : iu X ((n, a) :: r)
theorem iu.get {X : Cx} : ∀ {cl : List (Str × Addr)}, iu X cl -> ∀ y c, cl.lookup y = some c -> X.env.cells.lookup y = some c
 | _, .nil, y, c, e => by simp at e
 | _, .cons (n := n) h t, y, c, e => by
  rw [List.lookup_cons] at e
  by_cases hy : (y == n) = true
  ·rw [hy] at e
   have e1 : y = n := by simpa using hy
   cases e
   rw [e1]; exact h
  ·rw [Bool.eq_false_iff.mpr hy] at e
   exact t.get y c e
theorem fP.get {X : Cx} {scope : Scope} {cl : List (Str × Addr)} {σ : L2.St} : ∀ {js : List Nat} {ys : List Str}, fP X scope cl js ys -> ∀ (i : Nat) (y : Str) (v : V), ys[i]? = some y -> (js.map fun j => (σ[j]?).join)[i]? = some (some v) ->
 ∃ (j : Nat) (c : Addr), X.N[j]? = some y /\ σ[j]? = some (some v) /\ X.env.kindOf y = some .cell /\ cl.lookup y = some c /\ X.env.cells.lookup y = some c
 | _, _, .nil, i, y, v, e, _ => by simp at e
 | _, _, .cons (j := j) hN hk h1 h2 h, 0, y, v, e, q => by
  simp at e q
  subst e
  refine ⟨j, _, hN, ?_, hk, h1, h2⟩
  cases z : σ[j]? with
  | none => rw [z] at q; simp at q
  | some o => rw [z] at q; simp at q; rw [q]
 | _, _, .cons hN hk h1 h2 h, i + 1, y, v, e, q => by
  simp only [List.getElem?_cons_succ, List.map_cons] at e q
  exact h.get i y v e q
theorem fP.len {X : Cx} {scope : Scope} {cl : List (Str × Addr)} : ∀ {js : List Nat} {ys : List Str}, fP X scope cl js ys -> js.length = ys.length
 | _, _, .nil => rfl
 | _, _, .cons _ _ _ _ h => by simp [h.len]
noncomputable def a7 (X : Cx) (N' : List Str) (scope : Scope) (cl : List (Str × Addr)) (C : Addr) (s2 : Shared) (H2 : Hp) (ex : List Addr) (pn : List (Addr × Obj)) : Cx :=
 { X with N := N', s₀ := s2, H₀ := H2, env := compEnvC scope cl C X.env, outer := X.stack, ex := ex, fn := fun _ => false, pn := pn, xe := fun _ _ => False }
structure eM (X : Cx) (x : Str) (scope : Scope) (cl : List (Str × Addr)) (fr : List Nat) (ys : List Str) : Prop where
 clos : closureFor scope X.env = pure cl
 nocell : (scope.names.all fun p => p.2 != .cell) = true
 kind : scope.kind = .function
 names : (scope.names.all fun p => p.2 != .local || scope.names.lookup p.1 == some .local) = true
 own : scope.names.lookup x = some .local
 kinds : ((relabel scope X.env).names.all fun p => (p.2 != .cell && p.2 != .free) || (cl.lookup p.1).isSome) = true
 cls : iu X cl
 aN : fP X scope cl fr ys
 nd : (x :: ys).Nodup
 kfr : (ys.all fun y => (relabel scope X.env).names.lookup y == some .cell) = true
noncomputable def ix (X : Cx) (ifs : List Expr) (t : TT) : Prop :=
 ∀ (pins : List (Addr × Obj)) (s : Shared) (σ : L2.St) (H : Hp) (Q : Bool -> Hp -> Prop), Inv X pins σ H s -> t σ H Q ->
  wpAny (model X.prog X.w) X.A (forIn ifs true fun c r => if r = true then do let ok <- isTrue c X.env (eval c X.env); pure (ForInStep.yield ok) else pure (ForInStep.yield r)) (TP X pins σ Q) X.xe s
noncomputable def pR : TT := fun _ H Q => Q true H
theorem lT {X : Cx} : ix X [] pR := fun _ _ _ H _ I h => wpAny_tests_nil ⟨H, I, h⟩
theorem tF {X : Cx} {c : Expr} {t : TT} (hc : PT X c t) : ix X [c] t := fun pins s σ H Q I h => wpAny_tests_one (hc pins s σ H Q I h)
noncomputable def tG (J : It) (ρ : L2.St) (tt : TT) (te : TE) (H : Hp) (Q : VK) : Prop := ∃ W : Nat -> Nat -> List V -> Hp -> Prop, (∃ m, W 0 m [] H) /\ ∀ i m ys H, W i m ys H ->
 (J.stop i H /\ ys.length <= sizeLine /\ ∀ l, H l = none -> Q (.ref l) (upd H l (.lst ys))) ∨ (J.go i H /\ ys.length < sizeLine /\ ∃ N : List V -> Hp -> Prop, (∀ zs H', N zs H' -> ∃ m', m' < m /\ W (i + 1) m' zs H') /\
  ∀ x H', J.yld i H x H' -> tt (some x :: ρ) H' fun b H1 => if b = true then te (some x :: ρ) H1 fun y H2 => N (ys ++ [y]) H2 else N ys H1)
noncomputable def lU (wi : TI) (fr : List Nat) (tt : TT) (te : TE) : TE := fun σ H Q => wi σ H fun J H1 => tG J (fr.map fun j => (σ[j]?).join) tt te H1 Q
section
variable {X : Cx} {pins : List (Addr × Obj)} {σ : L2.St} {H2 : Hp} {s2 : Shared} {x : Str} {px pos : Pos} {elt iter : Expr} {ifs : List Expr} {scope : Scope} {cl : List (Str × Addr)} {fr : List Nat} {ys : List Str} {tt : TT} {te : TE}
theorem tH {l : List (Str × NameKind)} {p : Str × NameKind -> Bool} (h : l.all p = true) {y : Str} {k : NameKind} (e : l.lookup y = some k) : p (y, k) = true := by
 exact List.all_eq_true.mp h _ (PySem.mem_of_lookup e)
theorem Lz {C : Addr} {ex : List Addr} {pn : List (Addr × Obj)} (S : eM X x scope cl fr ys) (I2 : Inv X pins σ H2 s2) (f2 : ∀ b ∈ ex, cI X pins H2 b) (hC : s2.heap.objs.size <= C) (hex : ∀ b ∈ ex, b < s2.heap.objs.size) : (a7 X (x :: ys) scope cl C s2 H2 ex pn).Ok := by
 refine ⟨I2.ok.mod, S.kind, I2.ok.glob, I2.ok.blt, hC, fun a b c h1 h2 => ?_, fun y hy => ?_, fun _ _ z => (nomatch z), I2.ok.hd, I2.ok.frames, .inl rfl, fun b hb => ⟨?_, fun y c e z => ?_⟩, I2.bs, Nat.le_trans I2.ok.bsz I2.sz, fun b o e hb => ?_, fun b hb z => ?_, I2.stack, I2.oy⟩
 ·exact I2.ok.inj a b c (S.cls.get a c h1) (S.cls.get b c h2)
 ·have yi : (relabel scope X.env).names.lookup y = some .cell ∨ (relabel scope X.env).names.lookup y = some .free := hy
  have q : (cl.lookup y).isSome = true := by
   rcases yi with e | e
   ·simpa using tH S.kinds e
   ·simpa using tH S.kinds e
  exact Option.isSome_iff_exists.mp q
 ·exact Nat.ne_of_lt (Nat.lt_of_lt_of_le (hex b hb) hC)
 ·exact (f2 b hb).2.2.2.2.1 y c (S.cls.get y c e) z
 ·obtain ⟨_, _, _, d, _, _⟩ := f2 b hb
  rcases d with d | d
  ·exact I2.ok.noex b o e d
  ·exact absurd (Nat.lt_of_lt_of_le (Heap.lt_size e) (Nat.le_trans I2.ok.bsz d)) (Nat.lt_irrefl _)
 ·obtain ⟨_, d1, d2, _⟩ := f2 b hb
  rcases List.mem_cons.mp (I2.fD b z) with q | q
  ·exact d1 q
  ·exact d2 q
theorem EH {J : It} {fp : List Addr} {it : Addr} {tn : Nat -> Heap -> Prop} {E : Value -> Shared -> Prop} {Q : VK} {RR : Value -> Addr -> Result -> Shared -> Prop}
 (S : eM X x scope cl fr ys) (hc : X.calm = true)
 (hb : ∀ (C : Addr) (s : Shared) (H : Hp) (ex : List Addr) (pn : List (Addr × Obj)), ix (a7 X (x :: ys) scope cl C s H ex pn) ifs tt /\ PE (a7 X (x :: ys) scope cl C s H ex pn) elt te)
 (I2 : Inv X pins σ H2 s2) (T : Turn X.prog X.w X.K (.Name x px) J fp it tn) (cJ : tn 0 s2.heap) (f2 : ∀ b ∈ fp, cI X pins H2 b)
 (h : tG J (fr.map fun j => (σ[j]?).join) tt te H2 Q)
 (yj : ∀ D C s' H', Inv X pins σ H' s' -> (∃ m, s'.heap.Ns C m) -> cI X pins H' C -> Q (.ref D) H' -> RR (.ref D) C (.ok .next) s') :
 wpAny (model X.prog X.w) X.A (newList []) (fun acc s3 => wpAny (model X.prog X.w) X.A (newFunctionEnv scope X.env.globals cl [] X.env.qual none .none (some X.env)) (fun pS s4 =>
  codeAny (model X.prog X.w) X.A (.compStart (.ListComp elt [⟨.Name x px, iter, ifs, 0⟩] scope pos) 0 (.ref it) acc { pS with scope := relabel scope X.env }) (RR acc pS.locals) s4) E s3) E s2 := by
 obtain ⟨W, ⟨m0, w0⟩, turn⟩ := h
 refine wpAny_newObj_type (wpAny_newFunctionEnv (fun y hy => by simpa using List.all_eq_true.mp S.nocell y hy) (fun y hy => absurd hy (by simp)) (fun h1 eB cN => ?_) S.kind)
 dsimp only at eB cN ⊢
 generalize eP : s2.heap.push { cls := .type "list", dict := none, data := .seq ([] : List Value).toArray } = P2 at eB cN ⊢
 have sz : P2.objs.size = s2.heap.objs.size + 1 := by rw [<- eP, Heap.size_push]
 have dM : s2.heap.objs.size ≠ P2.objs.size := by walk_at "om"
 have keep : ∀ b o, s2.heap.get? b = some o -> h1.get? b = some o := fun b o e => by
  have lt := Heap.lt_size e
  exact cN.extBut b o (by walk_at "om") (Heap.get?_push_of_some _ (eP ▸ Heap.get?_push_of_some _ e))
 have hD : h1.get? s2.heap.objs.size = some { cls := .type "list", data := .seq ([] : List Value).toArray 0 } :=
  cN.extBut _ _ dM (Heap.get?_push_of_some _ (eP ▸ Heap.get?_push_size _ rfl))
 have df : ∀ b ∈ fp, b < s2.heap.objs.size := fun b hb => by
  obtain ⟨o, e, _⟩ := T.obj 0 _ cJ b hb
  exact Heap.lt_size e
 have pT : ∀ b, s2.heap.objs.size <= b -> b ∉ aN X.stack := fun b hle z => by
  rcases List.mem_cons.mp (I2.fD b z) with q | q
  ·have := I2.lt; walk_at "om"
  ·exact I2.xD hle q
 generalize eC : P2.objs.size = C at eB cN dM ⊢
 generalize eD : s2.heap.objs.size = D at dM hD df pT
 have jW : s2.heap.objs.size <= C := by walk_at "om"
 have pU : s2.heap.objs.size <= D := by walk_at "om"
 have yk : (a7 X (x :: ys) scope cl C s2 H2 fp (X.pn ++ pins)).Ok := Lz S I2 f2 jW (fun b hb => by have := df b hb; walk_at "om")
 have pV : ∀ p ∈ X.pn ++ pins, p.1 ≠ C /\ p.1 ≠ D /\ p.1 ∉ aN X.stack /\ ∀ b ∈ fp, p.1 ≠ b := fun p hp => by
  obtain ⟨e, n, nL, nf, _⟩ := I2.pin p hp
  have lt := Heap.lt_size e
  refine ⟨by walk_at "om", by walk_at "om", fun z => ?_, fun b hb => (f2 b hb).2.2.2.2.2 p hp⟩
  rcases List.mem_cons.mp (I2.fD _ z) with q | q
  ·exact nL q
  ·exact nf q
 have I4 : Inv (a7 X (x :: ys) scope cl C s2 H2 fp (X.pn ++ pins)) [] (none :: fr.map fun j => (σ[j]?).join) H2 { s2 with heap := h1, toks := s2.toks + ([] : List (Str × Value)).length } := by
  refine ⟨yk, rfl, I2.bare, Un.kept keep, ⟨_, eB, fun i y v e1 e2 e3 => ?_⟩, fun y c e => ?_, I2.ag.fresh jW, fun y c e => I2.d9 y c (S.cls.get y c e), fun p hp => ?_, I2.ag.kept keep, ?_⟩
  ·cases i with
   | zero => simp at e2
   | succ i =>
    simp only [List.getElem?_cons_succ] at e1 e2
    have pW : ys[i]? = some y := e1
    obtain ⟨j, c, hN, hσ, hk, ym, yn⟩ := S.aN.get i y v pW e2
    obtain ⟨m, hm, hl⟩ := I2.loc
    obtain ⟨u, ru, lu⟩ := hl j y v hN hσ (.inr (.inl hk))
    refine ⟨u, ru, .inr ⟨.inl ?_, c, ym, ?_⟩⟩
    ·have z := List.all_eq_true.mp S.kfr y (List.mem_of_getElem? pW)
     exact (by simpa using z : (relabel scope X.env).names.lookup y = some .cell)
    ·rcases lu with ⟨z, _⟩ | ⟨_, c', e', q'⟩
     ·rw [hk] at z; cases z
     ·rw [yn] at e'; cases e'
      obtain ⟨o, ho, hd⟩ := q'
      exact ⟨o, keep _ _ ho, hd⟩
  ·obtain ⟨v, o, ho, hd⟩ := I2.cell y c (S.cls.get y c e)
   exact ⟨v, o, keep _ _ ho, hd⟩
  ·have bZ : p ∈ X.pn ++ pins := by
    have : p ∈ (X.pn ++ pins) ++ [] := hp
    simpa using this
   obtain ⟨e, n, _, _, d⟩ := I2.pin p bZ
   obtain ⟨p1, _, p3, _⟩ := pV p bZ
   exact ⟨keep _ _ e, n, p1, p3, d⟩
  ·show (none :: fr.map fun j => (σ[j]?).join).length = (x :: ys).length
   simp [S.aN.len]
 have pX : tn 0 h1 := T.keep 0 _ _ cJ fun b _ o e => keep b o e
 have jX : ∀ (H' : Hp) (o : Obj), (∀ b ∈ fp, H' b = none) -> ∀ b ∈ fp, cI (a7 X (x :: ys) scope cl C s2 H2 fp (X.pn ++ pins)) [(D, o)] H' b := fun H' o hn b hb => by
  obtain ⟨_, d1, d2, d3, d4, d5⟩ := f2 b hb
  have lt := df b hb
  refine ⟨hn b hb, ?_, fun z => ?_, .inl hb, fun y c e => d4 y c (S.cls.get y c e), fun p hp => ?_⟩
  ·show b ≠ C
   walk_at "om"
  ·rcases List.mem_cons.mp (I2.fD b z) with q | q
   ·exact d1 q
   ·exact d2 q
  ·have bZ : p ∈ (X.pn ++ pins) ++ [(D, o)] := hp
   rcases List.mem_append.mp bZ with z | z
   ·exact d5 p z
   ·have : p = (D, o) := by simpa using z
    subst this
    show D ≠ b
    walk_at "om"
 have loop : ∀ s' : Shared, s' = { s2 with heap := h1, toks := s2.toks + ([] : List (Str × Value)).length } ->
  codeAny (model X.prog X.w) X.A (.compLoop (.ListComp elt [⟨.Name x px, iter, ifs, 0⟩] scope pos) 0 (.ref it) (.ref D) (compEnvC scope cl C X.env)) (RR (.ref D) C) s' := by
  rintro s' rfl
  refine codeAny_compLoop_tests (fun n s' => ∃ i zs H' o af nn, Inv (a7 X (x :: ys) scope cl C s2 H2 fp (X.pn ++ pins)) [] (o :: fr.map fun j => (σ[j]?).join) H' s' /\ tn i s'.heap /\ (∀ b ∈ fp, H' b = none) /\ H' D = none /\
   s'.heap.get? D = some { cls := .type "list", data := .seq (af : List Value).toArray nn } /\ Vals zs af /\ W i n zs H') ?_ m0 ⟨0, [], H2, none, [], 0, I4, pX, fun b hb => (f2 b hb).1, I2.ag.fresh pU, hD, .nil, w0⟩
  rintro n s3 ⟨i, zs, H3, o3, af, nn, I3, ia, ib, jY, yo, r3, w3⟩
  have pY : Inv (a7 X (x :: ys) scope cl C s2 H2 fp (X.pn ++ pins)) [(D, { cls := .type "list", data := .seq af.toArray nn })] (o3 :: fr.map fun j => (σ[j]?).join) H3 s3 := I3.hW fun p hp => by
   have : p = (D, { cls := .type "list", data := .seq af.toArray nn }) := by simpa using hp
   subst this
   exact ⟨yo, jY, dM, pT D (Nat.le_refl _), fun v z => nomatch z⟩
  rcases turn i n zs H3 w3 with ⟨stop, hlen, q⟩ | ⟨go, hlen, N, pZ, step⟩
  ·refine wpAny_mono (T.done (a7 X (x :: ys) scope cl C s2 H2 fp (X.pn ++ pins)) rfl rfl rfl hc i _ s3 _ H3 (fun _ _ => False) pY (jX H3 _ ib) ia stop) (fun r s4 ⟨hr, J4⟩ => ?_) fun _ _ z => z.elim
   subst hr
   have un := J4.base
   have yp : ∀ b o, s2.heap.get? b = some o -> b ≠ D := fun b o e => by have := Heap.lt_size e; walk_at "om"
   have dN : ∀ b u, H3 b = some u -> b ≠ D := fun b u e z => by rw [z, jY] at e; cases e
   refine yj D C s4 (upd H3 D (.lst zs)) ?_ ?_ ?_ (q D jY)
   ·refine I2.Dm (ch := fp) J4.os ⟨un.keep, un.slot, fun b o e nn hx => ?_, un.there, fun b xs e => ?_, fun b o u e => ?_, fun b ps e => ?_⟩ (fun a o e => ?_) J4.bare fun b hb => ?_
    ·rw [ay (yp b o e)]; exact un.free b o e nn hx
    ·have := un.cv b xs e; rw [ay (dN b _ this)]; exact this
    ·have := un.cw b o u e; rw [ay (dN b _ this)]; exact this
    ·obtain ⟨more, this⟩ := un.cG b ps e
     exact ⟨more, by rw [ay (dN b _ this)]; exact this⟩
    ·by_cases ha : a = D
     ·subst ha
      rw [aw] at e; cases e
      exact ⟨hlen, af, nn, r3, (J4.pin (a, _) (List.mem_append_right _ (List.mem_singleton.mpr rfl))).1⟩
     ·rw [ay ha] at e
      exact (J4.ag a o e).d7 (fun _ _ _ z => z) (fun b z => by rw [ay (dN b _ z)]; exact z) fun b xs z => by rw [ay (dN b _ z)]; exact z
    ·obtain ⟨_, d1, d2, d3, d4, d5⟩ := f2 b hb
     exact ⟨d3, d1, d4, d5⟩
   ·obtain ⟨m, hm, _⟩ := J4.loc
    exact ⟨m, hm⟩
   ·exact I2.gp jW (by rw [ay (Ne.symm dM)]; exact J4.free)
  ·refine wpAny_mono (T.item (a7 X (x :: ys) scope cl C s2 H2 fp (X.pn ++ pins)) rfl rfl rfl hc i _ s3 _ H3 (fun _ _ => False) pY (jX H3 _ ib) ia go) (fun r s4 ⟨u, hr, h4⟩ => ?_) fun _ _ z => z.elim
   subst hr
   have go' : wpAny (model X.prog X.w) X.A (letOwnedTupleGo (.Name x px) (.ref it) u >>= fun _ => assign (.Name x px) (compEnvC scope cl C X.env) u) (fun _ s5 =>
    wpAny (model X.prog X.w) X.A (forIn ifs true fun c r => if r = true then do let ok <- isTrue c (compEnvC scope cl C X.env) (eval c (compEnvC scope cl C X.env)); pure (ForInStep.yield ok) else pure (ForInStep.yield r)) (fun ok s6 =>
     if ok = true then wpAny (model X.prog X.w) X.A (eval elt (compEnvC scope cl C X.env)) (fun y s7 =>
      wpAny (model X.prog X.w) X.A (call (.builtin "list.append") [.ref D, y]) (fun _ s8 => ∃ m, m < n /\ ∃ i zs H' o af nn, Inv (a7 X (x :: ys) scope cl C s2 H2 fp (X.pn ++ pins)) [] (o :: fr.map fun j => (σ[j]?).join) H' s8 /\ tn i s8.heap /\ (∀ b ∈ fp, H' b = none) /\ H' D = none /\
       s8.heap.get? D = some { cls := .type "list", data := .seq (af : List Value).toArray nn } /\ Vals zs af /\ W i m zs H') (fun _ _ => False) s7) (fun _ _ => False) s6
     else ∃ m, m < n /\ ∃ i zs H' o af nn, Inv (a7 X (x :: ys) scope cl C s2 H2 fp (X.pn ++ pins)) [] (o :: fr.map fun j => (σ[j]?).join) H' s6 /\ tn i s6.heap /\ (∀ b ∈ fp, H' b = none) /\ H' D = none /\
      s6.heap.get? D = some { cls := .type "list", data := .seq (af : List Value).toArray nn } /\ Vals zs af /\ W i m zs H') (fun _ _ => False) s5) (fun _ _ => False) s4 := by
    refine wpAny_bind (aq h4 fun _ s5 ⟨y5, H5, I5, r5, yl, fc, oW⟩ => ?_)
    have oX := I5.pinned (jX H5 _ oW) (T.obj _ _ fc)
    refine aq (bz (X := a7 X (x :: ys) scope cl C s2 H2 fp (X.pn ++ pins)) (i := 0) S.nd rfl (.inl (lookup_relabel_local S.own)) (.inr (lookup_relabel_local S.own)) _ s5 _ H5 y5 u (fun σ' H' => σ' = (some y5 :: fr.map fun j => (σ[j]?).join) /\ H' = H5) oX r5 ⟨rfl, rfl⟩) fun _ s6 ⟨σ6, H6, I6, e6, LA⟩ => ?_
    subst e6 LA
    have after : ∀ (s7 : Shared) (H7 : Hp), Inv (a7 X (x :: ys) scope cl C s2 H2 fp (X.pn ++ pins)) ([(D, { cls := .type "list", data := .seq af.toArray nn })] ++ lq fp s5.heap) (some y5 :: fr.map fun j => (σ[j]?).join) H7 s7 ->
     Inv (a7 X (x :: ys) scope cl C s2 H2 fp (X.pn ++ pins)) [] (some y5 :: fr.map fun j => (σ[j]?).join) H7 s7 /\ tn (i + 1) s7.heap /\ (∀ b ∈ fp, H7 b = none) /\ H7 D = none /\ s7.heap.get? D = some { cls := .type "list", data := .seq af.toArray nn } := fun s7 H7 I7 => by
     have pD := I7.pin (D, { cls := .type "list", data := .seq af.toArray nn }) (List.mem_append_right _ (List.mem_append_left _ (List.mem_singleton.mpr rfl)))
     refine ⟨I7.hW fun p hp => absurd hp (by simp), T.keep _ _ _ fc fun b hb o e => (I7.pin (b, o) (List.mem_append_right _ (List.mem_append_right _ (lr hb e)))).1, fun b hb => ?_, pD.2.1, pD.1⟩
     obtain ⟨o, e, _⟩ := T.obj _ _ fc b hb
     exact (I7.pin (b, o) (List.mem_append_right _ (List.mem_append_right _ (lr hb e)))).2.1
    refine aq ((hb C s2 H2 fp (X.pn ++ pins)).1 _ s6 _ H6 _ I6 (step y5 H6 yl)) fun ok s7 ⟨H7, I7, q7⟩ => ?_
    dsimp only at q7
    by_cases ag : ok = true
    ·rw [if_pos ag] at q7 ⊢
     refine aq ((hb C s2 H2 fp (X.pn ++ pins)).2 _ s7 _ H7 _ I7 q7) fun yv s8 ⟨y8, H8, I8, r8, n8⟩ => ?_
     obtain ⟨m', gE, w8⟩ := pZ _ _ n8
     obtain ⟨J8, yq, yr, p0, jZ⟩ := after s8 H8 I8
     have hl := r3.length
     refine call_meets F.slot_list_append ⟨_, jZ, rfl⟩ F.entry_list_append (F.args_list_append_2 _ _) (PySem.list_append D af.toArray nn yv (by rw [List.size_toArray]; walk_at "om")) ⟨jZ, ?_⟩
     have p8 := PySem.IsL.update jZ (fun a => a.push yv)
     rw [List.push_toArray] at p8
     refine ⟨m', gE, i + 1, zs ++ [y8], H8, some y5, af ++ [yv], _, J8.turned (it := D) (fun b o b0 e => (Heap.get?_update_other _ _ (Ne.symm b0)).trans e) p0 dM (.inr pU) (fun y c e z => ?_) (fun p hp => ?_), T.keep _ _ _ yq fun b b0 o e => ?_, yr, p0, p8, r3.append (.cons r8 .nil), w8⟩
     ·obtain ⟨v, o, ho, _⟩ := I2.cell y c (S.cls.get y c e)
      have := Heap.lt_size ho
      walk_at "om"
     ·have bZ : p ∈ X.pn ++ pins := by
       have : p ∈ (X.pn ++ pins) ++ [] := hp
       simpa using this
      exact (pV p bZ).2.1
     ·have := df b b0
      exact (Heap.get?_update_other _ _ (by walk_at "om")).trans e
    ·rw [if_neg ag] at q7 ⊢
     obtain ⟨m', gE, w7⟩ := pZ _ _ q7
     obtain ⟨J7, yt, yu, yw, yx⟩ := after s7 H7 I7
     exact ⟨m', gE, i + 1, zs, H7, some y5, af, nn, J7, yt, yu, yw, yx, r3, w7⟩
   have e0 : (letOwnedTupleGo (.Name x px) (.ref it) u >>= fun _ => assign (.Name x px) (compEnvC scope cl C X.env) u) = assign (.Name x px) (compEnvC scope cl C X.env) u := rfl
   rw [e0] at go'
   refine wpAny_mono go' (fun _ s5 h5 => wpAny_mono h5 (fun ok s6 h6 => ?_) fun _ _ z => z.elim) fun _ _ z => z.elim
   by_cases ag : ok = true
   ·rw [if_pos ag] at h6 ⊢
    exact wpAny_mono h6 (fun y s7 h7 => wpAny_mono h7 (fun _ _ z => z) fun _ _ z => z.elim) fun _ _ z => z.elim
   ·rw [if_neg ag] at h6 ⊢
    exact h6
 exact codeAny_compStart_list (loop _ rfl) (T.self X.A 0 _ _ _ pX (loop _ rfl))
theorem j4 {wi : TI} (S : eM X x scope cl fr ys) (hc : X.calm = true) (hi : PI X (.Name x px) iter wi)
 (hb : ∀ (C : Addr) (s : Shared) (H : Hp) (ex : List Addr) (pn : List (Addr × Obj)), ix (a7 X (x :: ys) scope cl C s H ex pn) ifs tt /\ PE (a7 X (x :: ys) scope cl C s H ex pn) elt te)
 (hs : ∀ z, foldedSetIterable iter X.env z = pure z := by intro _; rfl) : PE X (.ListComp elt [⟨.Name x px, iter, ifs, 0⟩] scope pos) (lU wi fr tt te) := by
 intro pins s σ H Q I h
 rw [eval_ListComp]
 refine wpAny_comprehension_free (use := none) rfl hs S.clos S.kind (fun y hy hl => ?_) (aq (hi pins s σ H _ I h) fun xv s1 h1 => aq h1 fun lb s2 h2 => ?_)
 ·have z := List.all_eq_true.mp S.names y hy
  rw [hl] at z
  simpa using z
 ·obtain ⟨it, fp, tn, J, H2, rfl, I2, T, cJ, f2, hB⟩ := h2
  refine EH (RR := fun acc C => compPost (model X.prog X.w) X.A X.xe none (EP X pins σ Q) acc C) S hc hb I2 T cJ f2 hB fun D C s' H' J' hn fC q => ?_
  obtain ⟨m, hm⟩ := hn
  obtain ⟨c0, c1, c2, c3, c4, c5⟩ := fC
  exact ⟨m, hm, fun h' sb => ⟨.ref D, H', J'.turned (it := C) (fun b o hb e => sb.extBut b o hb e) c0 c1 c3 c4 c5, rfl, q⟩⟩
noncomputable def lV (i : Nat) (te : TE) : TS := fun D σ H => te σ H fun v H1 => D.nx (σ.set i (some v)) H1
theorem LB {wi : TI} {y : Str} {py p9 : Pos} {i : Nat} (S : eM X x scope cl fr ys) (hc : X.calm = true) (hN : X.N.Nodup) (hy : X.N[i]? = some y) (hl : X.env.scope.names.lookup y = some .local) (hi : PI X (.Name x px) iter wi)
 (hb : ∀ (C : Addr) (s : Shared) (H : Hp) (ex : List Addr) (pn : List (Addr × Obj)), ix (a7 X (x :: ys) scope cl C s H ex pn) ifs tt /\ PE (a7 X (x :: ys) scope cl C s H ex pn) elt te)
 (yy : swapsWith (.ListComp elt [⟨.Name x px, iter, ifs, 0⟩] scope pos) (some (.Name y py)) p9.line X.env = pure true := by rfl)
 (hs : ∀ z, foldedSetIterable iter X.env z = pure z := by intro _; rfl) : PS X (.Assign [.Name y py] (.ListComp elt [⟨.Name x px, iter, ifs, 0⟩] scope pos) p9) (lV i (lU wi fr tt te)) := by
 intro pins s σ H Dn I h
 rw [exec_Assign_Name_used _ _ _ _ yy]
 refine wpAny_bind (wpAny_standAt (wpAny_bind ?_))
 show wpAny _ X.A (do let _ <- comprehension (.ListComp elt [⟨.Name x px, iter, ifs, 0⟩] scope pos) scope X.env _ (newList []) false (eval iter X.env) (some (assign (.Name y py) X.env))) _ _ s
 refine wpAny_bind (aq (wpAny_comprehension_free (use := some (assign (.Name y py) X.env)) (Q := fun _ s' => SP X pins Dn .next s') rfl hs S.clos S.kind (fun z hz hl => ?_) (aq (hi pins s σ H _ I h) fun xv s1 h1 => aq h1 fun lb s2 h2 => ?_)) fun _ s' hq => wpAny_pure (wpAny_pure hq))
 ·have z' := List.all_eq_true.mp S.names z hz
  rw [hl] at z'
  simpa using z'
 ·obtain ⟨it, fp, tn, J, H2, rfl, I2, T, cJ, f2, hB⟩ := h2
  refine EH (RR := fun acc C => compPost (model X.prog X.w) X.A X.xe (some (assign (.Name y py) X.env)) (fun _ s' => SP X pins Dn .next s') acc C) S hc hb I2 T cJ f2 hB fun D C s' H' J' hn fC q => ?_
  obtain ⟨m, oC, es, ep, ho, hd, hr⟩ := hn
  obtain ⟨c0, c1, c2, c3, c4, c5⟩ := fC
  have J2 : Inv X (pins ++ [(C, oC)]) σ H' s' := J'.hW fun p hp => by
   rcases List.mem_append.mp hp with z | z
   ·exact J'.pin p (List.mem_append_right _ z)
   ·have : p = (C, oC) := by simpa using z
    subst this
    exact ⟨ho, c0, c1, c2, fun v z => by rw [hd] at z; cases z⟩
  show wpAny _ X.A (assign (.Name y py) X.env (.ref D)) _ _ _
  refine aq (bz (X := X) hN hy (.inl hl) (.inr hl) _ s' σ H' (.ref D) (.ref D) (fun σ' j5 => σ' = σ.set i (some (.ref D)) /\ j5 = H') J2 rfl ⟨rfl, rfl⟩) fun _ s3 ⟨σ3, H3, J3, e1, e2⟩ => ?_
  subst e1 e2
  obtain ⟨pc, LC, _⟩ := J3.pin (C, oC) (List.mem_append_right _ (List.mem_append_right _ (List.mem_singleton.mpr rfl)))
  refine ⟨m, ⟨oC, es, ep, pc, hd, hr⟩, fun h' sb => ⟨_, H3, J3.oV.turned (it := C) (fun b o hb e => sb.extBut b o hb e) c0 c1 c3 c4 c5, q⟩⟩
end
noncomputable def dr (Ok : Hp -> Prop) (ρ : L2.St) (tt : TT) (te : TE) : List V -> List V -> Hp -> (List V -> Hp -> Prop) -> Prop
 | [], ys, H, Q => Ok H /\ Q ys H
 | x :: r, ys, H, Q => Ok H /\ tt (some x :: ρ) H fun b H1 => if b = true then te (some x :: ρ) H1 fun y H2 => dr Ok ρ tt te r (ys ++ [y]) H2 Q else dr Ok ρ tt te r ys H1 Q
structure tI (J : It) (Ok : Hp -> Prop) (xs : List V) : Prop where
 go : ∀ i H x, Ok H -> xs[i]? = some x -> J.go i H
 yld : ∀ i H x H', Ok H -> J.yld i H x H' -> H' = H /\ (i < xs.length -> xs[i]? = some x)
 stop : ∀ i H, Ok H -> xs.length <= i -> J.stop i H
section
variable {J : It} {Ok : Hp -> Prop} {xs : List V} {ρ : L2.St} {tt : TT} {te : TE} {H : Hp} {Q : VK} {K : PySem.W.Frag} {a : Addr}
theorem j6 (O : tI J Ok xs) (hn : xs.length <= sizeLine) (h : dr Ok ρ tt te xs [] H fun ys H' => ∀ l, H' l = none -> Q (.ref l) (upd H' l (.lst ys))) : tG J ρ tt te H Q := by
 refine ⟨fun i m ys H => m = xs.length - i /\ i <= xs.length /\ ys.length <= i /\ dr Ok ρ tt te (xs.drop i) ys H fun ys H' => ∀ l, H' l = none -> Q (.ref l) (upd H' l (.lst ys)), ⟨_, rfl, Nat.zero_le _, Nat.le_refl _, h⟩, ?_⟩
 rintro i m ys H ⟨rfl, hi, hy, g⟩
 by_cases aR : i < xs.length
 ·have e := List.drop_eq_getElem_cons aR
  rw [e] at g
  obtain ⟨g0, g1⟩ := g
  refine .inr ⟨O.go i H _ g0 (List.getElem?_eq_getElem aR), by walk_at "om", fun zs H' => zs.length <= i + 1 /\ dr Ok ρ tt te (xs.drop (i + 1)) zs H' fun ys H' => ∀ l, H' l = none -> Q (.ref l) (upd H' l (.lst ys)), fun zs H' q => ⟨_, by walk_at "om", rfl, aR, q.1, q.2⟩, fun x H' y => ?_⟩
  obtain ⟨rfl, ex⟩ := O.yld i H x H' g0 y
  have ex := ex aR
  rw [List.getElem?_eq_getElem aR] at ex
  cases ex
  have l1 : ∀ y : V, (ys ++ [y]).length <= i + 1 := fun y => by rw [List.length_append, List.length_singleton]; walk_at "om"
  have l2 : ys.length <= i + 1 := by walk_at "om"
  simp only [l1, l2, true_and]
  exact g1
 ·have e : i = xs.length := by walk_at "om"
  subst e
  rw [List.drop_length] at g
  exact .inl ⟨O.stop _ H g.1 (Nat.le_refl _), by walk_at "om", g.2⟩
theorem yz : tI (eZ K a) (fun H => ai K H a xs) xs :=
 ⟨fun _ _ _ h e => ⟨xs, _, h, e⟩, fun _ _ _ _ h y => ⟨y.1, fun _ => y.2 xs h⟩, fun _ _ h hi => ⟨xs, h, hi⟩⟩
theorem LD : tI (oT K a) (fun H => ar K H a xs) xs :=
 ⟨fun _ _ _ h e => ⟨xs, _, h, e⟩, fun _ _ _ _ h y => ⟨y.1, fun _ => y.2 xs h⟩, fun _ _ h hi => ⟨xs, h, hi⟩⟩
theorem yA {lo : Int} {n : Nat} : tI (e9 lo n) (fun _ => True) ((List.range n).map fun k => V.int (lo + (k : Nat))) :=
 ⟨fun i _ _ _ e => by
  have := (List.getElem?_eq_some_iff.mp e).1
  show i < n
  simpa using this, fun i _ _ _ _ y => ⟨y.1, fun hi => by
   have aZ : i < n := by simpa using hi
   rw [y.2, List.getElem?_map, List.getElem?_range aZ]; rfl⟩, fun i _ _ hi => by
   show n <= i
   simpa using hi⟩
theorem tJ {p : V -> Bool} {f : V -> V} {Q' : List V -> Hp -> Prop} (cp : Ok H) : ∀ {xs ys : List V}, (∀ x ∈ xs, ∀ Q, Q (p x) H -> tt (some x :: ρ) H Q) -> (∀ x ∈ xs, p x = true -> ∀ Q, Q (f x) H -> te (some x :: ρ) H Q) -> Q' (ys ++ (xs.filter p).map f) H -> dr Ok ρ tt te xs ys H Q'
 | [], ys, _, _, q => ⟨cp, by simpa using q⟩
 | x :: r, ys, ht, he, q => by
  refine ⟨cp, ht x (.head _) _ ?_⟩
  by_cases hb : p x = true
  ·rw [if_pos hb]
   refine he x (.head _) hb _ (tJ cp (fun y hy => ht y (.tail _ hy)) (fun y hy => he y (.tail _ hy)) ?_)
   rw [List.filter_cons, if_pos hb] at q
   simpa using q
  ·rw [if_neg hb]
   refine tJ cp (fun y hy => ht y (.tail _ hy)) (fun y hy => he y (.tail _ hy)) ?_
   rw [List.filter_cons, if_neg hb] at q
   exact q
end
section
variable {X : Cx} {K : PySem.W.Frag}
theorem fj (h : X.K = K) : fN X (dc K) := h ▸ az
end
end Gz
namespace Gz
open PySem PySem.Spec PyProof.Rows L2
mutual
inductive Dat (K : PySem.W.Frag) (H : Hp) : V -> PyData -> Prop where
 | non : Dat K H .non .none
 | bl (b : Bool) : Dat K H (.bl b) (.bool b)
 | int (i : Int) : Dat K H (.int i) (.int i)
 | str (x : Str) : Dat K H (.str x) (.str x)
 | tup {a : Addr} {xs : List V} {ds : List PyData} (h : ar K H a xs) (r : eN K H xs ds) : Dat K H (.ref a) (.tuple ds)
 | lst {a : Addr} {xs : List V} {ds : List PyData} (h : ai K H a xs) (r : eN K H xs ds) : Dat K H (.ref a) (.list ds)
inductive eN (K : PySem.W.Frag) (H : Hp) : List V -> List PyData -> Prop where
 | nil : eN K H [] []
 | cons {x : V} {d : PyData} {xs : List V} {ds : List PyData} (h : Dat K H x d) (r : eN K H xs ds) : eN K H (x :: xs) (d :: ds)
end
section
variable {X : Cx} {pins : List (Addr × Obj)} {σ : L2.St} {H : Hp} {s : Shared}
mutual
theorem Dat.reads (I : Inv X pins σ H s) : ∀ (d : PyData) {v : V} {u : Value}, Dat X.K H v d -> RelV v u -> ∃ as, Reads s.heap u d as
 | .none, _, _, .non, r => by cases r; exact ⟨_, .none⟩
 | .bool b, _, _, .bl _, r => by cases r; exact ⟨_, .bool b⟩
 | .int i, _, _, .int _, r => by obtain ⟨t, rfl⟩ := r; exact ⟨_, .int i t⟩
 | .str x, _, _, .str _, r => by obtain ⟨t, rfl⟩ := r; exact ⟨_, .str x t⟩
 | .tuple ds, _, _, .tup h q, r => by
  cases r
  obtain ⟨af, rv, ⟨o, ho, hc, n, hd⟩, _⟩ := I.tuple h
  obtain ⟨as, ra⟩ := eN.reads I ds q rv
  exact ⟨_, .tuple ho hc hd (by simpa using ra)⟩
 | .list ds, _, _, .lst h q, r => by
  cases r
  obtain ⟨af, rv, ⟨o, n, ho, hc, _, hd⟩, _⟩ := I.list h
  obtain ⟨as, ra⟩ := eN.reads I ds q rv
  exact ⟨_, .list ho hc hd (by simpa using ra)⟩
theorem eN.reads (I : Inv X pins σ H s) : ∀ (ds : List PyData) {vs : List V} {us : List Value}, eN X.K H vs ds -> Vals vs us -> ∃ as, ReadsAll s.heap us ds as
 | [], _, _, .nil, r => by cases r; exact ⟨_, .nil⟩
 | d :: ds, _, _, .cons h q, r => by
  cases r with
  | cons r1 r2 =>
   obtain ⟨as, ra⟩ := Dat.reads I d h r1
   obtain ⟨bs, rb⟩ := eN.reads I ds q r2
   exact ⟨_, .cons ra rb⟩
end
noncomputable def yB (K : PySem.W.Frag) (neg : Bool) : R2 := fun x y H Q => ∃ d e, Dat K H x d /\ Dat K H y e /\ d.canLay0 = true /\ e.canLay0 = true /\ d.depth <= 60 /\ Q (.bl (if neg = true then !PyData.eqv d e else PyData.eqv d e)) H
theorem EI (hu : X.A.units + 64 < cLine) : bW X (compareOp .Eq) (yB X.K false) := by
 intro pins s σ H x y v u Q I rx ry h
 obtain ⟨d, e, dx, dy, c1, c2, dd, q⟩ := h
 obtain ⟨as, ra⟩ := Dat.reads I d dx rx
 obtain ⟨bs, rb⟩ := Dat.reads I e dy ry
 exact SeqAt.compareEq_reads ra rb c1 c2 (by omega) ⟨.bl _, H, I, rfl, q⟩
theorem LF (hu : X.A.units + 64 < cLine) : bW X (compareOp .NotEq) (yB X.K true) := by
 intro pins s σ H x y v u Q I rx ry h
 obtain ⟨d, e, dx, dy, c1, c2, dd, q⟩ := h
 obtain ⟨as, ra⟩ := Dat.reads I d dx rx
 obtain ⟨bs, rb⟩ := Dat.reads I e dy ry
 exact SeqAt.compareNe_reads ra rb c1 c2 (by omega) ⟨.bl _, H, I, rfl, q⟩
end
end Gz
namespace Gz
open PySem PySem.Spec PyProof.Rows L2
noncomputable abbrev En := Option Int
noncomputable def ev : En -> V
 | none => .non
 | some i => .int i
theorem tL : ev none = .non := rfl
theorem tM (i : Int) : ev (some i) = .int i := rfl
noncomputable def bg : En -> En -> Bool
 | some x, some y => decide (y < x)
 | _, _ => false
noncomputable def aQ (H : Hp) (v : V) (a b : En) : Prop := ∃ p, v = .ref p /\ H p = some (.tup [ev a, ev b])
theorem aQ.same {H H1 : Hp} {v : V} {a b : En} (h : aQ H v a b) (s : aj H H1) : aQ H1 v a b := by
 obtain ⟨p, e, h⟩ := h
 exact ⟨p, e, s _ _ h⟩
theorem aQ.new {H : Hp} {p : Addr} {a b : En} : aQ (upd H p (.tup [ev a, ev b])) (.ref p) a b := ⟨p, rfl, aw⟩
noncomputable def hold (a b : En) (n : Int) : Bool := !bg a (some n) && !bg (some n) b
theorem LG {a b : En} {n : Int} : hold a b n = true ↔ (∀ x, a = some x -> x <= n) /\ (∀ y, b = some y -> n <= y) := by
 unfold hold
 rcases a with _ | x <;> rcases b with _ | y <;> simp [bg]
noncomputable def gF : En -> En -> En
 | some x, some y => some (if y > x then y else x)
 | some x, none => some x
 | none, b => b
noncomputable def gG : En -> En -> En
 | some x, some y => some (if y < x then y else x)
 | some x, none => some x
 | none, b => b
noncomputable def nums (a b : En) : List Int := [a, b].filterMap id
noncomputable def tN (v : V) : Bool := !decide (v = .non)
theorem LH (a b : En) : ([ev a, ev b].filter tN).map (fun v => v) = (nums a b).map V.int := by
 rcases a with _ | x <;> rcases b with _ | y <;> simp [ev, nums, tN]
theorem LI (a b : En) : ir ip (nums a b) .non = ev (gF a b) := by
 rcases a with _ | x <;> rcases b with _ | y <;> simp [nums, gF, ip, ir, ev]
theorem LJ (a b : En) : ir iq (nums a b) .non = ev (gG a b) := by
 rcases a with _ | x <;> rcases b with _ | y <;> simp [nums, gG, iq, ir, ev]
noncomputable def EJ (H : Hp) (v : V) (lo hi : En) : Prop := (bg lo hi = true -> v = .non) /\ (bg lo hi = false -> aQ H v lo hi)
theorem EK {K : PySem.W.Frag} {H : Hp} {p : Addr} {a b : En} {Q : VK} {tt : TT} {te : TE} (hp : H p = some (.tup [ev a, ev b])) (ht : ∀ x H Q, Q (tN x) H -> tt [some x] H Q) (he : ∀ x H Q, Q x H -> te [some x] H Q)
 (q : ∀ l, H l = none -> Q (.ref l) (upd H l (.lst ((nums a b).map V.int)))) : tG (oT K p) [] tt te H Q := by
 refine j6 (xs := [ev a, ev b]) LD bQ (tJ (p := tN) (f := fun v => v) (ar.of hp) (fun x _ Q h => ht x H Q h) (fun x _ _ Q h => he x H Q h) ?_)
 rw [List.nil_append, LH]
 exact q
end Gz
namespace Gz
open L2
noncomputable abbrev S2 := En × En
noncomputable def hs (s : S2) (n : Int) : Bool := hold s.1 s.2 n
noncomputable def EL (s : S2) : Prop := bg s.1 s.2 = false
noncomputable def tO (a b : En) : Prop := a = none ∨ ∃ x y, a = some x /\ b = some y /\ x <= y
theorem tO.trans {a b c : En} (h : tO a b) (h' : tO b c) : tO a c := by
 rcases h with rfl | ⟨x, y, rfl, rfl, h1⟩
 ·exact .inl rfl
 ·rcases h' with h' | ⟨x', y', e, rfl, h2⟩
  ·cases h'
  ·cases e; exact .inr ⟨_, _, rfl, rfl, by omega⟩
noncomputable def lW (p q : S2) : Prop := ∃ h l, p.2 = some h /\ q.1 = some l /\ h + 2 <= l
noncomputable def Apart : List S2 -> Prop
 | x :: y :: r => lW x y /\ Apart (y :: r)
 | _ => True
theorem Apart.get : ∀ {l : List S2} {k : Nat} {p q : S2}, Apart l -> l[k]? = some p -> l[k + 1]? = some q -> lW p q
 | [], _, _, _, _, e, _ => by simp at e
 | [_], _, _, _, _, _, e => by simp at e
 | x :: y :: r, 0, p, q, h, e, e' => by simp at e e'; subst e e'; exact h.1
 | x :: y :: r, k + 1, p, q, h, e, e' => Apart.get (l := y :: r) (k := k) h.2 (by simpa using e) (by simpa using e')
noncomputable def tP (a b : En) : Prop := b = none ∨ ∃ x y, a = some x /\ b = some y /\ x <= y
theorem tP.trans {a b c : En} (h : tP a b) (h' : tP b c) : tP a c := by
 rcases h' with rfl | ⟨x', y', rfl, rfl, h2⟩
 ·exact .inl rfl
 ·rcases h with h | ⟨x, y, rfl, e, h1⟩
  ·cases h
  ·cases e; exact .inr ⟨_, _, rfl, rfl, by omega⟩
noncomputable abbrev gH := Option (List S2 × S2)
open PySem in
noncomputable def dO (H : Hp) : List V -> List S2 -> Prop
 | [], [] => True
 | v :: vs, s :: ss => aQ H v s.1 s.2 /\ dO H vs ss
 | _, _ => False
section
variable {H H1 : Hp} {K : PySem.W.Frag}
theorem dO.len : ∀ {vs : List V} {ss : List S2}, dO H vs ss -> vs.length = ss.length
 | [], [], _ => rfl
 | _ :: _, _ :: _, h => by simp [dO.len h.2]
 | [], _ :: _, h => h.elim
 | _ :: _, [], h => h.elim
theorem dO.get : ∀ {vs : List V} {ss : List S2} {i : Nat} {v : V}, dO H vs ss -> vs[i]? = some v -> ∃ s, ss[i]? = some s /\ aQ H v s.1 s.2
 | [], [], _, _, _, e => by simp at e
 | _ :: _, s :: _, 0, _, h, e => by simp at e; subst e; exact ⟨s, rfl, h.1⟩
 | _ :: _, _ :: _, i + 1, _, h, e => by
  obtain ⟨s, a, b⟩ := dO.get (i := i) h.2 (by simpa using e)
  exact ⟨s, by simpa using a, b⟩
 | [], _ :: _, _, _, h, _ => h.elim
 | _ :: _, [], _, _, h, _ => h.elim
open PySem
noncomputable def yC : En -> PyData
 | none => .none
 | some i => .int i
noncomputable def yD (s : S2) : PyData := .tuple [yC s.1, yC s.2]
theorem EM (e : En) : Dat K H (ev e) (yC e) := by
 rcases e with _ | x
 ·exact .non
 ·exact .int x
theorem aQ.dat {v : V} {a b : En} (h : aQ H v a b) : Dat K H v (yD (a, b)) := by
 obtain ⟨p, rfl, h⟩ := h
 exact .tup (ar.of h) (.cons (EM a) (.cons (EM b) .nil))
end
end Gz
namespace Gz
open PySem PySem.Spec PyProof.Rows L2
noncomputable def tQ (lo st : Int) (n : Nat) : It := ⟨fun i _ => i < n, fun i H x H' => H' = H /\ x = .int (lo + (i : Int) * st), fun i _ => n <= i⟩
theorem LK {P : Program} {w : World} {K : PySem.W.Frag} {tg : Expr} (it : Addr) (lo st : Int) (n : Nat) : Turn P w K tg (tQ lo st n) [it] it (fun i h => IsRangeIter h it (lo + (i : Nat) * st) ((n : Int) - (i : Nat)) st) where
 mem := by simp
 obj := fun i h q b hb => by
  have e : b = it := by simpa using hb
  subst e
  exact ⟨_, q, fun v z => by
   have z' : Data.fields _ = Data.cell v := z
   cases z'⟩
 keep := fun i h h' q k => k it (by simp) _ q
 item := by
  intro X hP hw hK hc i pins s σ H E I hf q hg
  subst hP hw hK
  obtain ⟨f0, f1, f2, f3, f4, f5⟩ := hf it (by simp)
  have W := Walks.range (prog := X.prog) (w := X.w) (I.ok.hd hc) it lo st n
  refine W.item i s _ _ hg q fun v h' tk hv q' kk => ?_
  obtain ⟨t, rfl⟩ := hv
  have I1 : Inv X pins σ H { s with heap := h', toks := tk } := I.turned (fun b o hb e => kk b o (by simpa using hb) e) f0 f1 f3 f4 f5
  exact ⟨_, rfl, oR (s := { s with heap := h', toks := tk }) (n := "range_iterator") q' rfl rfl (by decide) ⟨.int (lo + (i : Int) * st), H, I1, ⟨t, rfl⟩, ⟨rfl, rfl⟩, q', fun b hb => (hf b hb).1⟩⟩
 done := by
  intro X hP hw hK hc i pins s σ H E I hf q hg
  subst hP hw hK
  obtain ⟨f0, f1, f2, f3, f4, f5⟩ := hf it (by simp)
  exact wpAny_pyNext_range_end (I.ok.hd hc) q (by have : n <= i := hg; omega) fun h' eb => ⟨rfl, I.turned (t' := s.toks) (fun b o hb e => eb b o hb e) f0 f1 f3 f4 f5⟩
 self := fun _ _ _ _ _ q h => wpAny_pyIter_rangeiter q h
noncomputable def iy (lo hi st : Int) : Nat := (Builtin.Range.rangeSize lo hi st).toNat
noncomputable def lX (ta : TA) : TI := fun σ H R => ta σ H fun vs H1 => ∃ i j c : Int, vs = [.int i, .int j, .int c] /\ (-1000000 <= i /\ i <= 1000000 /\ -1000000 <= j /\ j <= 1000000 /\ -1000000 <= c /\ c <= 1000000 /\ c ≠ 0) /\ R (tQ i c (iy i j c)) H1
theorem EN (i j c : Int) (h : c ≠ 0) : 0 <= Builtin.Range.rangeSize i j c := by
 unfold Builtin.Range.rangeSize
 split
 ·rename_i hc
  split
  ·have := Int.ediv_nonneg (show 0 <= j - i - 1 by omega) (show 0 <= c by omega); omega
  ·omega
 ·split
  ·have := Int.ediv_nonneg (show 0 <= i - j - 1 by omega) (show 0 <= -c by omega); omega
  ·omega
theorem size_le (i j c : Int) (h : -1000000 <= i /\ i <= 1000000 /\ -1000000 <= j /\ j <= 1000000 /\ c ≠ 0) : Builtin.Range.rangeSize i j c <= 2000000 := by
 unfold Builtin.Range.rangeSize
 split
 ·split
  ·have := Int.ediv_le_self (c) (show 0 <= j - i - 1 by omega); omega
  ·omega
 ·split
  ·have := Int.ediv_le_self (-c) (show 0 <= i - j - 1 by omega); omega
  ·omega
theorem LL {i j c : Int} (h : -1000000 <= i /\ i <= 1000000 /\ -1000000 <= j /\ j <= 1000000 /\ -1000000 <= c /\ c <= 1000000 /\ c ≠ 0) : Builtin.Range.small i j c = true := by
 have h1 := EN i j c h.2.2.2.2.2.2
 have h2 := size_le i j c ⟨h.1, h.2.1, h.2.2.1, h.2.2.2.1, h.2.2.2.2.2.2⟩
 unfold Builtin.Range.small
 generalize Builtin.Range.rangeSize i j c = n at h1 h2 ⊢
 simp only [Builtin.Range.rangeFitsLong, Bool.and_eq_true, Bool.or_eq_true, decide_eq_true_eq, beq_iff_eq]
 refine ⟨by omega, .inr ?_⟩
 split <;> simp only [Bool.and_eq_true, decide_eq_true_eq] <;> omega
theorem LM {X : Cx} {tg a b c : Expr} {ta : TA} {p pos : Pos} (hg : Gl X "range") (hm : X.mg "range" = none) (ha : PA X [a, b, c] ta) (hs : starEach [a, b, c] X.env = (false, eval a X.env) :: starEach [b, c] X.env := by rfl) (dH : starEach [b, c] X.env = [(false, eval b X.env), (false, eval c X.env)] := by rfl) :
 PI X tg (.Call (.Name "range" p) [a, b, c] [] pos) (lX ta) := by
 intro pins s σ H R I h
 refine Call_ (fG I hg hm boot_range (PyProof.Rows.callWith_type1 (aq (ha pos pins s σ H _ I h) fun us s1 ⟨vs, H1, I1, r1, q1⟩ => ?_) (by rw [hs]) (by rw [dH]; rfl)))
 obtain ⟨i, j, k, e, hb, q⟩ := q1
 subst e
 cases r1 with
 | cons r rr =>
  cases rr with
  | cons r' rr =>
   cases rr with
   | cons LN rr =>
    cases rr
    obtain ⟨t, rfl⟩ := r
    obtain ⟨t', rfl⟩ := r'
    obtain ⟨EO, rfl⟩ := LN
    have hk : k ≠ 0 := hb.2.2.2.2.2.2
    refine call_range_3 hk ?_ (.inl (PyProof.noPylong_small (by omega)))
    refine wpAny_pyIter_range (IsRange.new ..) (LL hb) ?_
    have I2 : Inv X pins σ H1 { s1 with heap := s1.heap.push { cls := .type "range", data := .fields #[.int i t, .int j t', .int k EO] }, toks := s1.toks } := I1.kept fun b o e => Heap.get?_push_of_some _ e
    refine ⟨_, [_], _, _, H1, rfl, I2.kept (t' := s1.toks) fun b o e => Heap.get?_push_of_some _ e, LK _ i k (iy i j k), ?_, fun b hb => ?_, q⟩
    ·have e1 : i + ((0 : Nat) : Int) * k = i := by simp
     have e2 : ((iy i j k : Nat) : Int) - ((0 : Nat) : Int) = Builtin.Range.rangeSize i j k := by
      have := EN i j k hk
      unfold iy; omega
     show IsRangeIter _ _ (i + ((0 : Nat) : Int) * k) (((iy i j k : Nat) : Int) - ((0 : Nat) : Int)) k
     rw [e1, e2]
     exact Heap.get?_push_size _ rfl
    ·have e : b = (s1.heap.push { cls := .type "range", data := .fields #[.int i t, .int j t', .int k EO] }).objs.size := by simpa using hb
     subst e
     exact I2.gp (Nat.le_refl _) (I2.ag.fresh (Nat.le_refl _))
section
variable {g : TG} {tb : TS} {D : Ends} {σ : L2.St} {H : Hp} {lo st : Int} {n : Nat}
theorem tR {ta : TA} : fJ (oU ta) g tb D σ H = ta σ H (fun vs H1 => ∃ i j : Int, vs = [.int i, .int j] /\ (-(2 ^ 62) <= i /\ i < 2 ^ 62 /\ -(2 ^ 62) <= j /\ j < 2 ^ 62) /\ FJ (e9 i (j - i).toNat) g tb D σ H1) := rfl
theorem tS {ta : TA} : fJ (lX ta) g tb D σ H = ta σ H (fun vs H1 => ∃ i j c : Int, vs = [.int i, .int j, .int c] /\ (-1000000 <= i /\ i <= 1000000 /\ -1000000 <= j /\ j <= 1000000 /\ -1000000 <= c /\ c <= 1000000 /\ c ≠ 0) /\ FJ (tQ i c (iy i j c)) g tb D σ H1) := rfl
theorem LO (Pv : Nat -> L2.St -> Hp -> Prop) (h0 : Pv 0 σ H)
 (hs : ∀ i σ H, i < n -> Pv i σ H -> g (.int (lo + (i : Int) * st)) σ H fun σ2 H2 => tb { D with nx := Pv (i + 1), ct := Pv (i + 1), bk := D.nx } σ2 H2) (hd : ∀ σ H, Pv n σ H -> D.nx σ H) : FJ (tQ lo st n) g tb D σ H := by
 refine ⟨fun i m σ H => m = n - i /\ i <= n /\ Pv i σ H, ⟨n, by simp, Nat.zero_le _, h0⟩, ?_⟩
 rintro i m σ H ⟨rfl, hi, p⟩
 by_cases aR : i < n
 ·refine .inr ⟨aR, Pv (i + 1), fun σ' H' p' => ⟨n - (i + 1), by omega, rfl, aR, p'⟩, fun x H' y => ?_⟩
  obtain ⟨e, y⟩ := y
  subst e y
  exact hs i σ _ aR p
 ·have e : i = n := by omega
  subst e
  exact .inl ⟨Nat.le_refl _, hd σ H p⟩
end
end Gz
namespace Gz
open PySem PySem.Spec PyProof.Rows L2
local macro_rules | `(tactic| walk_at "om") => `(tactic| ((try simp only [PySem.Addr] at *); omega))
section
variable {X : Cx} {pins : List (Addr × Obj)} {σ : L2.St} {H : Hp} {s : Shared} {h' : Heap}
theorem ER {ch : List Addr} (I : Inv X pins σ H s) (k : ∀ b o, b ∉ ch -> s.heap.get? b = some o -> h'.get? b = some o) (hf : ∀ b ∈ ch, cI X pins H b) {H' : Hp} (up : ∀ b u, H b = some u -> H' b = some u) : ∀ b u, H b = some u -> bb X.prog X.w H' h' b u := by
 have hU : ∀ b u, H b = some u -> b ∉ ch := fun b u e z => by rw [(hf b z).1] at e; cases e
 intro b u e
 refine (I.ag b u e).d7 (fun c v hc q => k c v ?_ q) (fun c q => up c _ q) fun c xs q => up c _ q
 rcases hc with z | z
 ·rw [z]; exact hU b u e
 ·exact hU c _ z
theorem LP {t' : Nat} {ch : List Addr} (I : Inv X pins σ H s) (k : ∀ b o, b ∉ ch -> s.heap.get? b = some o -> h'.get? b = some o) (hf : ∀ b ∈ ch, cI X pins H b) : Inv X pins σ H { s with heap := h', toks := t' } := by
 refine I.step (g' := s.gens) (d' := s.drawn) (ch := ch) (fun b hb => ?_) (fun b o _ _ hc e _ => k b o hc e) (fun b o _ _ hc e _ => ⟨o.slots, k b o hc e⟩) (fun _ _ _ _ n => n)
  (fun b o hc e => ⟨o, k b o hc e⟩) (fun _ _ e => e) (fun _ _ _ e => e) (fun b ps e => ⟨#[], by rw [e]; simp⟩) (fun m hm => ?_) (fun b u e => ER I k hf (fun _ _ q => q) b u e) I.bare
 ·obtain ⟨_, d1, d2, d3, d4, d5⟩ := hf b hb
  exact ⟨d3, d1, d4, d5⟩
 ·obtain ⟨o, es, ep, ho, r⟩ := hm
  exact ⟨o, es, ep, k _ o (fun z => (hf _ z).2.1 rfl) ho, r⟩
theorem LQ {t' : Nat} {ch : List Addr} {T : Addr} {o : HO} (I : Inv X pins σ H s) (k : ∀ b o, b ∉ ch -> s.heap.get? b = some o -> h'.get? b = some o) (hf : ∀ b ∈ ch, cI X pins H b) (hT : s.heap.objs.size <= T)
 (new : bb X.prog X.w (upd H T o) h' T o) : Inv X pins σ (upd H T o) { s with heap := h', toks := t' } := by
 have hn := I.ag.fresh hT
 have neT : ∀ b u, s.heap.get? b = some u -> b ≠ T := fun b u e => Nat.ne_of_lt (Nat.lt_of_lt_of_le (Heap.lt_size e) hT)
 have dN : ∀ b u, H b = some u -> b ≠ T := fun b u e => hJ e hn
 have up : ∀ b u, H b = some u -> upd H T o b = some u := fun b u e => by rw [ay (dN b u e)]; exact e
 refine I.step (g' := s.gens) (d' := s.drawn) (ch := ch) (fun b hb => ?_) (fun b o _ _ hc e _ => k b o hc e) (fun b o _ _ hc e _ => ⟨o.slots, k b o hc e⟩) (fun b u _ e n => by rw [ay (neT b u e)]; exact n)
  (fun b o hc e => ⟨o, k b o hc e⟩) (fun b xs e => up b _ e) (fun b _ _ e => up b _ e) (fun b ps e => ⟨#[], by rw [up b _ e]; simp⟩) (fun m hm => ?_) (fun b u e => ?_) I.bare
 ·obtain ⟨_, d1, d2, d3, d4, d5⟩ := hf b hb
  exact ⟨d3, d1, d4, d5⟩
 ·obtain ⟨o, es, ep, ho, r⟩ := hm
  exact ⟨o, es, ep, k _ o (fun z => (hf _ z).2.1 rfl) ho, r⟩
 ·by_cases hb : b = T
  ·subst hb; rw [aw] at e; cases e; exact new
  ·rw [ay hb] at e
   exact ER I k hf up b u e
end
noncomputable def ES (K : PySem.W.Frag) (a : Addr) (n : Nat) : It :=
 ⟨fun i H => ∃ xs x, ai K H a xs /\ xs.length = n /\ xs.reverse[i]? = some x, fun i H x H' => H' = H /\ ∀ xs, ai K H a xs -> xs.length = n -> xs.reverse[i]? = some x, fun i _ => i = n⟩
noncomputable def qb (K : PySem.W.Frag) (ta : TA) : TI := fun σ H R => ta σ H fun vs H1 => ∃ a xs, vs = [.ref a] /\ ai K H1 a xs /\ R (ES K a xs.length) H1
noncomputable def tT (K : PySem.W.Frag) (a : Addr) : It :=
 ⟨fun i H => ∃ xs x, ai K H a xs /\ xs[i]? = some x, fun i H v H' => ∃ (p : Addr) (x : V), v = .ref p /\ H p = none /\ H' = upd H p (.tup [.int i, x]) /\ ∀ xs, ai K H a xs -> xs[i]? = some x, fun i H => ∃ xs, ai K H a xs /\ xs.length <= i⟩
theorem LR : 2 <= sizeLine := by decide
theorem LS {P : Program} {w : World} {K : PySem.W.Frag} {es : List Expr} {k : Nat} {tp : Pos} (a e it : Addr) (ET : e ≠ it) : Turn P w K (.Tuple es k tp) (tT K a) [e, it] e (fun i h => (∃ old, IsEnum h e it (i : Nat) old) /\ h.IsListIter it a i) where
 mem := by simp
 obj := fun i h st b hb => by
  obtain ⟨⟨old, he⟩, o, ho, c, d⟩ := st
  have b0 : b = e ∨ b = it := by simpa using hb
  rcases b0 with rfl | rfl
  ·exact ⟨_, he, fun v z => by
    have z' : Data.fields _ = Data.cell v := z
    cases z'⟩
  ·exact ⟨o, ho, fun v z => by rw [d] at z; cases z⟩
 keep := fun i h h' st kk => by
  obtain ⟨⟨old, he⟩, hi⟩ := st
  exact ⟨⟨old, kk e (by simp) _ he⟩, hi.at fun o e => kk it (by simp) o e⟩
 item := by
  intro X hP hw hK hc i pins s σ H E I hf st hg
  subst hP hw hK
  obtain ⟨xs, x, hq, hx⟩ := hg
  obtain ⟨⟨old, he⟩, hit⟩ := st
  obtain ⟨af, rv, p, hz⟩ := I.list hq
  obtain ⟨u, hu, ru⟩ := rv.get hx
  refine wpAny_pyNext_enum_item he hit p.isList (x := u) (by simpa using hu) ET fun h1 ho LU hT hsz hk => ?_
  refine ⟨_, rfl, wpAny_letOwnedTupleGo_enum ho fun h2 LV dH => ?_⟩
  have yE : Heap.SameBut e h1 h2 := dH
  have neT : s.heap.objs.size ≠ e := Nat.ne_of_gt (Heap.lt_size he)
  have up : ∀ b o, b ∉ [e, it] -> s.heap.get? b = some o -> h2.get? b = some o := fun b o hb q => by
   have b0 : b ≠ e /\ b ≠ it := by simpa using hb
   exact yE.extBut b o b0.1 (hk b o b0.1 b0.2 q)
  have hn : H s.heap.objs.size = none := I.ag.fresh (Nat.le_refl _)
  refine ⟨.ref s.heap.objs.size, upd H s.heap.objs.size (.tup [.int i, x]), LQ (s := s) (h' := h2) (t' := s.toks + 1) I up hf (Nat.le_refl _) ⟨LR, [.int i s.toks, u], .cons ⟨_, rfl⟩ (.cons ru .nil), ?_⟩, rfl, ⟨_, x, rfl, hn, rfl, fun ys hy => by rw [I.Dt hy hq]; exact hx⟩, ⟨⟨u, ?_⟩, ?_⟩, fun b hb => ?_⟩
  ·have := yE.extBut _ _ neT hT
   exact ⟨_, this, rfl, _, rfl⟩
  ·have : ((i : Int) + 1) = ((i + 1 : Nat) : Int) := by omega
   rw [<- this]; exact LV
  ·exact LU.at fun o q => yE.extBut _ _ (Ne.symm ET) q
  ·rw [ay]
   ·exact (hf b hb).1
   ·have b0 : b = e ∨ b = it := by simpa using hb
    rcases b0 with rfl | rfl
    ·exact Ne.symm neT
    ·obtain ⟨o, q, _⟩ := hit
     exact Nat.ne_of_lt (Heap.lt_size q)
 done := by
  intro X hP hw hK hc i pins s σ H E I hf st hg
  subst hP hw hK
  obtain ⟨xs, hq, hx⟩ := hg
  obtain ⟨⟨old, he⟩, hit⟩ := st
  obtain ⟨af, rv, p, hz⟩ := I.list hq
  have hl := rv.length
  refine wpAny_pyNext_enum_end (I.ok.hd hc) he hit p.isList (by simp; omega) fun h' eb => ⟨rfl, LP (t' := s.toks) I (fun b o hb q => ?_) hf⟩
  have b0 : b ≠ e /\ b ≠ it := by simpa using hb
  exact eb b o b0.2 q
 self := fun _ i s Q E st h => by
  obtain ⟨⟨old, he⟩, _⟩ := st
  exact wpAny_pyIter_enum he h
noncomputable def lY (K : PySem.W.Frag) (ta : TA) : TI := fun σ H R => ta σ H fun vs H1 => ∃ a, vs = [.ref a] /\ (∃ xs, ai K H1 a xs) /\ R (tT K a) H1
theorem EU {X : Cx} {es : List Expr} {k : Nat} {tp : Pos} {e : Expr} {ta : TA} {p pos : Pos} (hg : Gl X "enumerate") (hm : X.mg "enumerate" = none) (ha : PA X [e] ta) (hs : starEach [e] X.env = [(false, eval e X.env)] := by rfl) : PI X (.Tuple es k tp) (.Call (.Name "enumerate" p) [e] [] pos) (lY X.K ta) := by
 intro pins s σ H R I h
 refine Call_ (fG I hg hm K5 (PyProof.Rows.callWith_type1 (aq (ha pos pins s σ H _ I h) fun us s1 ⟨vs, H1, I1, r1, q1⟩ => ?_) hs rfl))
 obtain ⟨a, rfl, ⟨xs, hq⟩, q⟩ := q1
 obtain ⟨u, rfl, ru⟩ := vals1 r1
 cases ru
 obtain ⟨af, rv, p, hz⟩ := I1.list hq
 refine call_enumerate_list p.isList fun h' he hit hsz hk => ?_
 refine wpAny_pyIter_enum he ?_
 have I2 : Inv X pins σ H1 { s1 with heap := h' } := I1.kept (t' := s1.toks) hk
 refine ⟨s1.heap.objs.size + 1, [s1.heap.objs.size + 1, s1.heap.objs.size], _, _, H1, rfl, I2, LS a _ _ (by walk_at "om"), ⟨⟨.none, he⟩, hit⟩, fun b hb => ?_, q⟩
 have b0 : b = s1.heap.objs.size + 1 ∨ b = s1.heap.objs.size := by simpa using hb
 rcases b0 with rfl | rfl
 ·exact I1.gp (Nat.le_succ _) (I1.ag.fresh (Nat.le_succ _))
 ·exact I1.gp (Nat.le_refl _) (I1.ag.fresh (Nat.le_refl _))
noncomputable def EV (K : PySem.W.Frag) (a b : Addr) : It :=
 ⟨fun i H => ∃ xs ys x y, ai K H a xs /\ ai K H b ys /\ xs[i]? = some x /\ ys[i]? = some y, fun i H v H' => ∃ (p : Addr) (x y : V), v = .ref p /\ H p = none /\ H' = upd H p (.tup [x, y]) /\ (∀ xs, ai K H a xs -> xs[i]? = some x) /\ ∀ ys, ai K H b ys -> ys[i]? = some y,
  fun i H => ∃ xs ys, ai K H a xs /\ ai K H b ys /\ (xs.length <= i ∨ ys.length <= i)⟩
noncomputable def qc (K : PySem.W.Frag) (ta : TA) : TI := fun σ H R => ta σ H fun vs H1 => ∃ a b, vs = [.ref a, .ref b] /\ (∃ xs, ai K H1 a xs) /\ (∃ ys, ai K H1 b ys) /\ R (EV K a b) H1
section
variable {X : Cx}
end
section
variable {K : PySem.W.Frag} {g : TG} {tb : TS} {D : Ends} {σ : L2.St} {H : Hp} {a b : Addr} {xs ys : List V}
theorem tU {ta : TA} : fJ (qb K ta) g tb D σ H = ta σ H (fun vs H1 => ∃ a xs, vs = [.ref a] /\ ai K H1 a xs /\ FJ (ES K a xs.length) g tb D σ H1) := rfl
theorem tV {ta : TA} : fJ (lY K ta) g tb D σ H = ta σ H (fun vs H1 => ∃ a, vs = [.ref a] /\ (∃ xs, ai K H1 a xs) /\ FJ (tT K a) g tb D σ H1) := rfl
theorem tW {ta : TA} : fJ (qc K ta) g tb D σ H = ta σ H (fun vs H1 => ∃ a b, vs = [.ref a, .ref b] /\ (∃ xs, ai K H1 a xs) /\ (∃ ys, ai K H1 b ys) /\ FJ (EV K a b) g tb D σ H1) := rfl
theorem EW (Pv : Nat -> L2.St -> Hp -> Prop) (h0 : Pv 0 σ H) (hl : ∀ i σ H, i <= xs.length -> Pv i σ H -> ai K H a xs)
 (hs : ∀ i x σ H p, xs[i]? = some x -> Pv i σ H -> H p = none -> g (.ref p) σ (upd H p (.tup [.int i, x])) fun σ2 H2 => tb { D with nx := Pv (i + 1), ct := Pv (i + 1), bk := D.nx } σ2 H2) (hd : ∀ σ H, Pv xs.length σ H -> D.nx σ H) : FJ (tT K a) g tb D σ H := by
 refine ⟨fun i m σ H => m = xs.length - i /\ i <= xs.length /\ Pv i σ H, ⟨_, rfl, Nat.zero_le _, h0⟩, ?_⟩
 rintro i m σ H ⟨rfl, hi, p⟩
 have q := hl i σ H hi p
 by_cases aR : i < xs.length
 ·refine .inr ⟨⟨xs, xs[i], q, by simp [aR]⟩, Pv (i + 1), fun σ' H' p' => ⟨xs.length - (i + 1), by omega, rfl, aR, p'⟩, fun v H' y => ?_⟩
  obtain ⟨w, x, rfl, hw, rfl, y⟩ := y
  exact hs i x σ _ w (y xs q) p hw
 ·have e : i = xs.length := by omega
  subst e
  exact .inl ⟨⟨xs, q, Nat.le_refl _⟩, hd σ H p⟩
end
theorem lZ {K : PySem.W.Frag} {i j : Nat} {p : Addr} {x y : V} {σ : L2.St} {H : Hp} {Q : L2.St -> Hp -> Prop} (h : ar K H p [x, y]) (q : Q ((σ.set i (some x)).set j (some y)) H) : gk K 2 (b8 (bG i) (b8 (bG j) gh)) (.ref p) σ H Q :=
 ⟨p, [x, y], rfl, h, rfl, x, [y], rfl, y, [], rfl, rfl, q⟩
end Gz
namespace Gz
open PySem PySem.Spec PyProof.Rows L2
local macro_rules | `(tactic| walk_at "om") => `(tactic| ((try simp only [PySem.Addr] at *); omega))
structure l5 (X : Cx) (own : List Str) (scope : Scope) (cl : List (Str × Addr)) (fr : List Nat) (ys : List Str) : Prop where
 clos : closureFor scope X.env = pure cl
 nocell : (scope.names.all fun p => p.2 != .cell) = true
 kind : scope.kind = .function
 names : (scope.names.all fun p => p.2 != .local || scope.names.lookup p.1 == some .local) = true
 kinds : ((relabel scope X.env).names.all fun p => (p.2 != .cell && p.2 != .free) || (cl.lookup p.1).isSome) = true
 cls : iu X cl
 aN : fP X scope cl fr ys
 kfr : (ys.all fun y => (relabel scope X.env).names.lookup y == some .cell) = true
noncomputable def qd (k : Nat) (J : It) (g : TG) (ρ : L2.St) (tt : TT) (te : TE) (H : Hp) (Q : VK) : Prop := ∃ W : Nat -> Nat -> List V -> Hp -> Prop, (∃ m, W 0 m [] H) /\ ∀ i m ys H, W i m ys H ->
 (J.stop i H /\ ys.length <= sizeLine /\ ∀ l, H l = none -> Q (.ref l) (upd H l (.lst ys))) ∨ (J.go i H /\ ys.length < sizeLine /\ ∃ N : List V -> Hp -> Prop, (∀ zs H', N zs H' -> ∃ m', m' < m /\ W (i + 1) m' zs H') /\
  ∀ os : List (Option V), os.length = k -> ∀ x H', J.yld i H x H' -> g x (os ++ ρ) H' fun σ2 H2 => ∃ lE, lE.length = k /\ σ2 = lE ++ ρ /\ tt σ2 H2 fun b H1 => if b = true then te σ2 H1 fun y H2 => N (ys ++ [y]) H2 else N ys H1)
noncomputable def l7 (k : Nat) (wi : TI) (g : TG) (fr : List Nat) (tt : TT) (te : TE) : TE := fun σ H Q => wi σ H fun J H1 => qd k J g (fr.map fun j => (σ[j]?).join) tt te H1 Q
theorem LW {prog : Program} {w : World} {A : Around} {s : Shared} {R : Result -> Shared -> Prop} {elt target iter : Expr} {ifs : List Expr} {scope : Scope} {pos : Pos} {it acc : Value} {env : Env} (I : Nat -> Shared -> Prop)
 (turn : ∀ n s, I n s -> wpAny (model prog w) A (pyNext it) (fun r s₁ => match r with
   | none => R (.ok .next) s₁
   | some v => wpAny (model prog w) A (letOwnedTupleGo target it v) (fun _ EX => wpAny (model prog w) A (assign target env v) (fun _ s₂ =>
    wpAny (model prog w) A (forIn ifs true fun c r => if r = true then do let ok <- isTrue c env (eval c env); pure (ForInStep.yield ok) else pure (ForInStep.yield r)) (fun ok s₃ =>
     if ok = true then wpAny (model prog w) A (eval elt env) (fun x s₄ =>
      wpAny (model prog w) A (call (.builtin "list.append") [acc, x]) (fun _ s₅ => ∃ m, m < n /\ I m s₅) (notedBy (model prog w) A env fun e s' => R (.error e) s') s₄) (notedBy (model prog w) A env fun e s' => R (.error e) s') s₃
     else ∃ m, m < n /\ I m s₃) (notedBy (model prog w) A env fun e s' => R (.error e) s') s₂) (notedBy (model prog w) A env fun e s' => R (.error e) s') EX) (notedBy (model prog w) A env fun e s' => R (.error e) s') s₁) (notedBy (model prog w) A env fun e s' => R (.error e) s') s)
 (n : Nat) (h : I n s) :
 codeAny (model prog w) A (.compLoop (.ListComp elt [⟨target, iter, ifs, 0⟩] scope pos) 0 it acc env) R s := by
 refine codeAny_loop rfl I (fun n s hI => ?_) n h
 show wpAny _ A ((compTurn (.ListComp elt [⟨target, iter, ifs, 0⟩] scope pos) 0 it acc env).onRaise (fun x => do noteFrame x env; theTreesLotGoes x)) _ _ s
 refine wpAny_noted ?_
 rw [compTurn_list]
 refine wpAny_bind (wpAny_standAt (wpAny_bind (wpAny_mono (turn n s hI) (fun r s₁ h₁ => ?_) fun _ _ h' => h')))
 cases r with
 | none => exact wpAny_pure h₁
 | some v =>
  refine wpAny_bind (wpAny_mono h₁ (fun _ EX LX => ?_) fun _ _ h' => h')
  refine wpAny_bind (wpAny_mono LX (fun _ s₂ h₂ => wpAny_bind (wpAny_mono h₂ (fun ok s₃ h₃ => ?_) fun _ _ h' => h')) fun _ _ h' => h')
  cases ok with
  | false => exact wpAny_pure ⟨rfl, h₃⟩
  | true =>
   exact wpAny_bind (wpAny_bind (wpAny_mono h₃ (fun x s₄ h₄ => wpAny_bind (wpAny_mono h₄ (fun _ s₅ h₅ => wpAny_pure (wpAny_pure ⟨rfl, h₅⟩)) fun _ _ h' => h')) fun _ _ h' => h'))
section
variable {X : Cx} {pins : List (Addr × Obj)} {σ : L2.St} {H2 : Hp} {s2 : Shared} {own : List Str} {tg : Expr} {g : TG} {pos : Pos} {elt iter : Expr} {ifs : List Expr} {scope : Scope} {cl : List (Str × Addr)} {fr : List Nat} {ys : List Str} {tt : TT} {te : TE}
theorem LY {C : Addr} {ex : List Addr} {pn : List (Addr × Obj)} (S : l5 X own scope cl fr ys) (I2 : Inv X pins σ H2 s2) (f2 : ∀ b ∈ ex, cI X pins H2 b) (hC : s2.heap.objs.size <= C) (hex : ∀ b ∈ ex, b < s2.heap.objs.size) : (a7 X (own ++ ys) scope cl C s2 H2 ex pn).Ok := by
 refine ⟨I2.ok.mod, S.kind, I2.ok.glob, I2.ok.blt, hC, fun a b c h1 h2 => ?_, fun y hy => ?_, fun _ _ z => (nomatch z), I2.ok.hd, I2.ok.frames, .inl rfl, fun b hb => ⟨?_, fun y c e z => ?_⟩, I2.bs, Nat.le_trans I2.ok.bsz I2.sz, fun b o e hb => ?_, fun b hb z => ?_, I2.stack, I2.oy⟩
 ·exact I2.ok.inj a b c (S.cls.get a c h1) (S.cls.get b c h2)
 ·have yi : (relabel scope X.env).names.lookup y = some .cell ∨ (relabel scope X.env).names.lookup y = some .free := hy
  have q : (cl.lookup y).isSome = true := by
   rcases yi with e | e
   ·simpa using tH S.kinds e
   ·simpa using tH S.kinds e
  exact Option.isSome_iff_exists.mp q
 ·exact Nat.ne_of_lt (Nat.lt_of_lt_of_le (hex b hb) hC)
 ·exact (f2 b hb).2.2.2.2.1 y c (S.cls.get y c e) z
 ·obtain ⟨_, _, _, d, _, _⟩ := f2 b hb
  rcases d with d | d
  ·exact I2.ok.noex b o e d
  ·exact absurd (Nat.lt_of_lt_of_le (Heap.lt_size e) (Nat.le_trans I2.ok.bsz d)) (Nat.lt_irrefl _)
 ·obtain ⟨_, d1, d2, _⟩ := f2 b hb
  rcases List.mem_cons.mp (I2.fD b z) with q | q
  ·exact d1 q
  ·exact d2 q
theorem EY {J : It} {fp : List Addr} {it : Addr} {tn : Nat -> Heap -> Prop} {E : Value -> Shared -> Prop} {Q : VK} {RR : Value -> Addr -> Result -> Shared -> Prop}
 (S : l5 X own scope cl fr ys) (hc : X.calm = true) (hg : ∀ (C : Addr) (s : Shared) (H : Hp) (ex : List Addr) (pn : List (Addr × Obj)), PG (a7 X (own ++ ys) scope cl C s H ex pn) tg g)
 (hb : ∀ (C : Addr) (s : Shared) (H : Hp) (ex : List Addr) (pn : List (Addr × Obj)), ix (a7 X (own ++ ys) scope cl C s H ex pn) ifs tt /\ PE (a7 X (own ++ ys) scope cl C s H ex pn) elt te)
 (I2 : Inv X pins σ H2 s2) (T : Turn X.prog X.w X.K tg J fp it tn) (cJ : tn 0 s2.heap) (f2 : ∀ b ∈ fp, cI X pins H2 b)
 (h : qd own.length J g (fr.map fun j => (σ[j]?).join) tt te H2 Q)
 (yj : ∀ D C s' H', Inv X pins σ H' s' -> (∃ m, s'.heap.Ns C m) -> cI X pins H' C -> Q (.ref D) H' -> RR (.ref D) C (.ok .next) s') :
 wpAny (model X.prog X.w) X.A (newList []) (fun acc s3 => wpAny (model X.prog X.w) X.A (newFunctionEnv scope X.env.globals cl [] X.env.qual none .none (some X.env)) (fun pS s4 =>
  codeAny (model X.prog X.w) X.A (.compStart (.ListComp elt [⟨tg, iter, ifs, 0⟩] scope pos) 0 (.ref it) acc { pS with scope := relabel scope X.env }) (RR acc pS.locals) s4) E s3) E s2 := by
 obtain ⟨W, ⟨m0, w0⟩, turn⟩ := h
 refine wpAny_newObj_type (wpAny_newFunctionEnv (fun y hy => by simpa using List.all_eq_true.mp S.nocell y hy) (fun y hy => absurd hy (by simp)) (fun h1 eB cN => ?_) S.kind)
 dsimp only at eB cN ⊢
 generalize eP : s2.heap.push { cls := .type "list", dict := none, data := .seq ([] : List Value).toArray } = P2 at eB cN ⊢
 have sz : P2.objs.size = s2.heap.objs.size + 1 := by rw [<- eP, Heap.size_push]
 have dM : s2.heap.objs.size ≠ P2.objs.size := by walk_at "om"
 have keep : ∀ b o, s2.heap.get? b = some o -> h1.get? b = some o := fun b o e => by
  have lt := Heap.lt_size e
  exact cN.extBut b o (by walk_at "om") (Heap.get?_push_of_some _ (eP ▸ Heap.get?_push_of_some _ e))
 have hD : h1.get? s2.heap.objs.size = some { cls := .type "list", data := .seq ([] : List Value).toArray 0 } :=
  cN.extBut _ _ dM (Heap.get?_push_of_some _ (eP ▸ Heap.get?_push_size _ rfl))
 have df : ∀ b ∈ fp, b < s2.heap.objs.size := fun b hb => by
  obtain ⟨o, e, _⟩ := T.obj 0 _ cJ b hb
  exact Heap.lt_size e
 have pT : ∀ b, s2.heap.objs.size <= b -> b ∉ aN X.stack := fun b hle z => by
  rcases List.mem_cons.mp (I2.fD b z) with q | q
  ·have := I2.lt; walk_at "om"
  ·exact I2.xD hle q
 generalize eC : P2.objs.size = C at eB cN dM ⊢
 generalize eD : s2.heap.objs.size = D at dM hD df pT
 have jW : s2.heap.objs.size <= C := by walk_at "om"
 have pU : s2.heap.objs.size <= D := by walk_at "om"
 have yk : (a7 X (own ++ ys) scope cl C s2 H2 fp (X.pn ++ pins)).Ok := LY S I2 f2 jW (fun b hb => by have := df b hb; walk_at "om")
 have pV : ∀ p ∈ X.pn ++ pins, p.1 ≠ C /\ p.1 ≠ D /\ p.1 ∉ aN X.stack /\ ∀ b ∈ fp, p.1 ≠ b := fun p hp => by
  obtain ⟨e, n, nL, nf, _⟩ := I2.pin p hp
  have lt := Heap.lt_size e
  refine ⟨by walk_at "om", by walk_at "om", fun z => ?_, fun b hb => (f2 b hb).2.2.2.2.2 p hp⟩
  rcases List.mem_cons.mp (I2.fD _ z) with q | q
  ·exact nL q
  ·exact nf q
 have I4 : Inv (a7 X (own ++ ys) scope cl C s2 H2 fp (X.pn ++ pins)) [] ((own.map fun _ => none) ++ fr.map fun j => (σ[j]?).join) H2 { s2 with heap := h1, toks := s2.toks + ([] : List (Str × Value)).length } := by
  refine ⟨yk, rfl, I2.bare, Un.kept keep, ⟨_, eB, fun i y v e1 e2 e3 => ?_⟩, fun y c e => ?_, I2.ag.fresh jW, fun y c e => I2.d9 y c (S.cls.get y c e), fun p hp => ?_, I2.ag.kept keep, ?_⟩
  ·by_cases hio : i < own.length
   ·rw [List.getElem?_append_left (by simpa using hio)] at e2
    simp [hio] at e2
   ·rw [List.getElem?_append_right (by simp; omega)] at e2
    have pW : ys[i - own.length]? = some y := by
     have : (own ++ ys)[i]? = some y := e1
     rwa [List.getElem?_append_right (by omega)] at this
    rw [List.length_map] at e2
    obtain ⟨j, c, hN, hσ, hk, ym, yn⟩ := S.aN.get (i - own.length) y v pW e2
    obtain ⟨m, hm, hl⟩ := I2.loc
    obtain ⟨u, ru, lu⟩ := hl j y v hN hσ (.inr (.inl hk))
    refine ⟨u, ru, .inr ⟨.inl ?_, c, ym, ?_⟩⟩
    ·have z := List.all_eq_true.mp S.kfr y (List.mem_of_getElem? pW)
     exact (by simpa using z : (relabel scope X.env).names.lookup y = some .cell)
    ·rcases lu with ⟨z, _⟩ | ⟨_, c', e', q'⟩
     ·rw [hk] at z; cases z
     ·rw [yn] at e'; cases e'
      obtain ⟨o, ho, hd⟩ := q'
      exact ⟨o, keep _ _ ho, hd⟩
  ·obtain ⟨v, o, ho, hd⟩ := I2.cell y c (S.cls.get y c e)
   exact ⟨v, o, keep _ _ ho, hd⟩
  ·have bZ : p ∈ X.pn ++ pins := by
    have : p ∈ (X.pn ++ pins) ++ [] := hp
    simpa using this
   obtain ⟨e, n, _, _, d⟩ := I2.pin p bZ
   obtain ⟨p1, _, p3, _⟩ := pV p bZ
   exact ⟨keep _ _ e, n, p1, p3, d⟩
  ·show ((own.map fun _ => (none : Option V)) ++ fr.map fun j => (σ[j]?).join).length = (own ++ ys).length
   simp [S.aN.len]
 have pX : tn 0 h1 := T.keep 0 _ _ cJ fun b _ o e => keep b o e
 have jX : ∀ (H' : Hp) (o : Obj), (∀ b ∈ fp, H' b = none) -> ∀ b ∈ fp, cI (a7 X (own ++ ys) scope cl C s2 H2 fp (X.pn ++ pins)) [(D, o)] H' b := fun H' o hn b hb => by
  obtain ⟨_, d1, d2, d3, d4, d5⟩ := f2 b hb
  have lt := df b hb
  refine ⟨hn b hb, ?_, fun z => ?_, .inl hb, fun y c e => d4 y c (S.cls.get y c e), fun p hp => ?_⟩
  ·show b ≠ C
   walk_at "om"
  ·rcases List.mem_cons.mp (I2.fD b z) with q | q
   ·exact d1 q
   ·exact d2 q
  ·have bZ : p ∈ (X.pn ++ pins) ++ [(D, o)] := hp
   rcases List.mem_append.mp bZ with z | z
   ·exact d5 p z
   ·have : p = (D, o) := by simpa using z
    subst this
    show D ≠ b
    walk_at "om"
 have loop : ∀ s' : Shared, s' = { s2 with heap := h1, toks := s2.toks + ([] : List (Str × Value)).length } ->
  codeAny (model X.prog X.w) X.A (.compLoop (.ListComp elt [⟨tg, iter, ifs, 0⟩] scope pos) 0 (.ref it) (.ref D) (compEnvC scope cl C X.env)) (RR (.ref D) C) s' := by
  rintro s' rfl
  refine LW (fun n s' => ∃ i zs H' os af nn, os.length = own.length /\ Inv (a7 X (own ++ ys) scope cl C s2 H2 fp (X.pn ++ pins)) [] (os ++ fr.map fun j => (σ[j]?).join) H' s' /\ tn i s'.heap /\ (∀ b ∈ fp, H' b = none) /\ H' D = none /\
   s'.heap.get? D = some { cls := .type "list", data := .seq (af : List Value).toArray nn } /\ Vals zs af /\ W i n zs H') ?_ m0 ⟨0, [], H2, own.map fun _ => none, [], 0, by simp, I4, pX, fun b hb => (f2 b hb).1, I2.ag.fresh pU, hD, .nil, w0⟩
  rintro n s3 ⟨i, zs, H3, EZ, af, nn, LZ, I3, ia, ib, jY, yo, r3, w3⟩
  have pY : Inv (a7 X (own ++ ys) scope cl C s2 H2 fp (X.pn ++ pins)) [(D, { cls := .type "list", data := .seq af.toArray nn })] (EZ ++ fr.map fun j => (σ[j]?).join) H3 s3 := I3.hW fun p hp => by
   have : p = (D, { cls := .type "list", data := .seq af.toArray nn }) := by simpa using hp
   subst this
   exact ⟨yo, jY, dM, pT D (Nat.le_refl _), fun v z => nomatch z⟩
  rcases turn i n zs H3 w3 with ⟨stop, hlen, q⟩ | ⟨go, hlen, N, pZ, step⟩
  ·refine wpAny_mono (T.done (a7 X (own ++ ys) scope cl C s2 H2 fp (X.pn ++ pins)) rfl rfl rfl hc i _ s3 _ H3 (fun _ _ => False) pY (jX H3 _ ib) ia stop) (fun r s4 ⟨hr, J4⟩ => ?_) fun _ _ z => z.elim
   subst hr
   have un := J4.base
   have yp : ∀ b o, s2.heap.get? b = some o -> b ≠ D := fun b o e => by have := Heap.lt_size e; walk_at "om"
   have dN : ∀ b u, H3 b = some u -> b ≠ D := fun b u e z => by rw [z, jY] at e; cases e
   refine yj D C s4 (upd H3 D (.lst zs)) ?_ ?_ ?_ (q D jY)
   ·refine I2.Dm (ch := fp) J4.os ⟨un.keep, un.slot, fun b o e nn hx => ?_, un.there, fun b xs e => ?_, fun b o u e => ?_, fun b ps e => ?_⟩ (fun a o e => ?_) J4.bare fun b hb => ?_
    ·rw [ay (yp b o e)]; exact un.free b o e nn hx
    ·have := un.cv b xs e; rw [ay (dN b _ this)]; exact this
    ·have := un.cw b o u e; rw [ay (dN b _ this)]; exact this
    ·obtain ⟨more, this⟩ := un.cG b ps e
     exact ⟨more, by rw [ay (dN b _ this)]; exact this⟩
    ·by_cases ha : a = D
     ·subst ha
      rw [aw] at e; cases e
      exact ⟨hlen, af, nn, r3, (J4.pin (a, _) (List.mem_append_right _ (List.mem_singleton.mpr rfl))).1⟩
     ·rw [ay ha] at e
      exact (J4.ag a o e).d7 (fun _ _ _ z => z) (fun b z => by rw [ay (dN b _ z)]; exact z) fun b xs z => by rw [ay (dN b _ z)]; exact z
    ·obtain ⟨_, d1, d2, d3, d4, d5⟩ := f2 b hb
     exact ⟨d3, d1, d4, d5⟩
   ·obtain ⟨m, hm, _⟩ := J4.loc
    exact ⟨m, hm⟩
   ·exact I2.gp jW (by rw [ay (Ne.symm dM)]; exact J4.free)
  ·refine wpAny_mono (T.item (a7 X (own ++ ys) scope cl C s2 H2 fp (X.pn ++ pins)) rfl rfl rfl hc i _ s3 _ H3 (fun _ _ => False) pY (jX H3 _ ib) ia go) (fun r s4 ⟨u, hr, h4⟩ => ?_) fun _ _ z => z.elim
   subst hr
   refine wpAny_mono h4 (fun _ s5 ⟨y5, H5, I5, r5, yl, fc, oW⟩ => ?_) fun _ _ z => z.elim
   have oX := I5.pinned (jX H5 _ oW) (T.obj _ _ fc)
   refine wpAny_mono (hg C s2 H2 fp (X.pn ++ pins) _ s5 _ H5 y5 u _ oX r5 (step EZ LZ y5 H5 yl)) (fun _ s6 ⟨σ6, H6, I6, tX, E1, e6, q6⟩ => ?_) fun _ _ z => z.elim
   subst e6
   have after : ∀ (s7 : Shared) (H7 : Hp), Inv (a7 X (own ++ ys) scope cl C s2 H2 fp (X.pn ++ pins)) ([(D, { cls := .type "list", data := .seq af.toArray nn })] ++ lq fp s5.heap) (tX ++ fr.map fun j => (σ[j]?).join) H7 s7 ->
    Inv (a7 X (own ++ ys) scope cl C s2 H2 fp (X.pn ++ pins)) [] (tX ++ fr.map fun j => (σ[j]?).join) H7 s7 /\ tn (i + 1) s7.heap /\ (∀ b ∈ fp, H7 b = none) /\ H7 D = none /\ s7.heap.get? D = some { cls := .type "list", data := .seq af.toArray nn } := fun s7 H7 I7 => by
    have pD := I7.pin (D, { cls := .type "list", data := .seq af.toArray nn }) (List.mem_append_right _ (List.mem_append_left _ (List.mem_singleton.mpr rfl)))
    refine ⟨I7.hW fun p hp => absurd hp (by simp), T.keep _ _ _ fc fun b hb o e => (I7.pin (b, o) (List.mem_append_right _ (List.mem_append_right _ (lr hb e)))).1, fun b hb => ?_, pD.2.1, pD.1⟩
    obtain ⟨o, e, _⟩ := T.obj _ _ fc b hb
    exact (I7.pin (b, o) (List.mem_append_right _ (List.mem_append_right _ (lr hb e)))).2.1
   refine wpAny_mono ((hb C s2 H2 fp (X.pn ++ pins)).1 _ s6 _ H6 _ I6 q6) (fun ok s7 ⟨H7, I7, q7⟩ => ?_) fun _ _ z => z.elim
   dsimp only at q7
   by_cases ag : ok = true
   ·rw [if_pos ag] at q7 ⊢
    refine wpAny_mono ((hb C s2 H2 fp (X.pn ++ pins)).2 _ s7 _ H7 _ I7 q7) (fun yv s8 ⟨y8, H8, I8, r8, n8⟩ => ?_) fun _ _ z => z.elim
    obtain ⟨m', gE, w8⟩ := pZ _ _ n8
    obtain ⟨J8, yq, yr, p0, jZ⟩ := after s8 H8 I8
    have hl := r3.length
    refine call_meets F.slot_list_append ⟨_, jZ, rfl⟩ F.entry_list_append (F.args_list_append_2 _ _) (PySem.list_append D af.toArray nn yv (by rw [List.size_toArray]; walk_at "om")) ⟨jZ, ?_⟩
    have p8 := PySem.IsL.update jZ (fun a => a.push yv)
    rw [List.push_toArray] at p8
    refine ⟨m', gE, i + 1, zs ++ [y8], H8, tX, af ++ [yv], _, E1, J8.turned (it := D) (fun b o b0 e => (Heap.get?_update_other _ _ (Ne.symm b0)).trans e) p0 dM (.inr pU) (fun y c e z => ?_) (fun p hp => ?_), T.keep _ _ _ yq fun b b0 o e => ?_, yr, p0, p8, r3.append (.cons r8 .nil), w8⟩
    ·obtain ⟨v, o, ho, _⟩ := I2.cell y c (S.cls.get y c e)
     have := Heap.lt_size ho
     walk_at "om"
    ·have bZ : p ∈ X.pn ++ pins := by
      have : p ∈ (X.pn ++ pins) ++ [] := hp
      simpa using this
     exact (pV p bZ).2.1
    ·have := df b b0
     exact (Heap.get?_update_other _ _ (by walk_at "om")).trans e
   ·rw [if_neg ag] at q7 ⊢
    obtain ⟨m', gE, w7⟩ := pZ _ _ q7
    obtain ⟨J7, yt, yu, yw, yx⟩ := after s7 H7 I7
    exact ⟨m', gE, i + 1, zs, H7, tX, af, nn, E1, J7, yt, yu, yw, yx, r3, w7⟩
 exact codeAny_compStart_list (loop _ rfl) (T.self X.A 0 _ _ _ pX (loop _ rfl))
theorem L0 {wi : TI} (S : l5 X own scope cl fr ys) (hc : X.calm = true) (hi : PI X tg iter wi) (hg : ∀ (C : Addr) (s : Shared) (H : Hp) (ex : List Addr) (pn : List (Addr × Obj)), PG (a7 X (own ++ ys) scope cl C s H ex pn) tg g)
 (hb : ∀ (C : Addr) (s : Shared) (H : Hp) (ex : List Addr) (pn : List (Addr × Obj)), ix (a7 X (own ++ ys) scope cl C s H ex pn) ifs tt /\ PE (a7 X (own ++ ys) scope cl C s H ex pn) elt te)
 (hs : ∀ z, foldedSetIterable iter X.env z = pure z := by intro _; rfl) : PE X (.ListComp elt [⟨tg, iter, ifs, 0⟩] scope pos) (l7 own.length wi g fr tt te) := by
 intro pins s σ H Q I h
 rw [eval_ListComp]
 refine wpAny_comprehension_free (use := none) rfl hs S.clos S.kind (fun y hy hl => ?_) (aq (hi pins s σ H _ I h) fun xv s1 h1 => aq h1 fun lb s2 h2 => ?_)
 ·have z := List.all_eq_true.mp S.names y hy
  rw [hl] at z
  simpa using z
 ·obtain ⟨it, fp, tn, J, H2, rfl, I2, T, cJ, f2, hB⟩ := h2
  refine EY (RR := fun acc C => compPost (model X.prog X.w) X.A X.xe none (EP X pins σ Q) acc C) S hc hg hb I2 T cJ f2 hB fun D C s' H' J' hn fC q => ?_
  obtain ⟨m, hm⟩ := hn
  obtain ⟨c0, c1, c2, c3, c4, c5⟩ := fC
  exact ⟨m, hm, fun h' sb => ⟨.ref D, H', J'.turned (it := C) (fun b o hb e => sb.extBut b o hb e) c0 c1 c3 c4 c5, rfl, q⟩⟩
theorem L4 {wi : TI} {y : Str} {py p9 : Pos} {i : Nat} (S : l5 X own scope cl fr ys) (hc : X.calm = true) (hN : X.N.Nodup) (hy : X.N[i]? = some y) (hl : X.env.scope.names.lookup y = some .local) (hi : PI X tg iter wi) (hg : ∀ (C : Addr) (s : Shared) (H : Hp) (ex : List Addr) (pn : List (Addr × Obj)), PG (a7 X (own ++ ys) scope cl C s H ex pn) tg g)
 (hb : ∀ (C : Addr) (s : Shared) (H : Hp) (ex : List Addr) (pn : List (Addr × Obj)), ix (a7 X (own ++ ys) scope cl C s H ex pn) ifs tt /\ PE (a7 X (own ++ ys) scope cl C s H ex pn) elt te)
 (yy : swapsWith (.ListComp elt [⟨tg, iter, ifs, 0⟩] scope pos) (some (.Name y py)) p9.line X.env = pure true := by rfl)
 (hs : ∀ z, foldedSetIterable iter X.env z = pure z := by intro _; rfl) : PS X (.Assign [.Name y py] (.ListComp elt [⟨tg, iter, ifs, 0⟩] scope pos) p9) (lV i (l7 own.length wi g fr tt te)) := by
 intro pins s σ H Dn I h
 rw [exec_Assign_Name_used _ _ _ _ yy]
 refine wpAny_bind (wpAny_standAt (wpAny_bind ?_))
 show wpAny _ X.A (do let _ <- comprehension (.ListComp elt [⟨tg, iter, ifs, 0⟩] scope pos) scope X.env _ (newList []) false (eval iter X.env) (some (assign (.Name y py) X.env))) _ _ s
 refine wpAny_bind (aq (wpAny_comprehension_free (use := some (assign (.Name y py) X.env)) (Q := fun _ s' => SP X pins Dn .next s') rfl hs S.clos S.kind (fun z hz hl => ?_) (aq (hi pins s σ H _ I h) fun xv s1 h1 => aq h1 fun lb s2 h2 => ?_)) fun _ s' hq => wpAny_pure (wpAny_pure hq))
 ·have z' := List.all_eq_true.mp S.names z hz
  rw [hl] at z'
  simpa using z'
 ·obtain ⟨it, fp, tn, J, H2, rfl, I2, T, cJ, f2, hB⟩ := h2
  refine EY (RR := fun acc C => compPost (model X.prog X.w) X.A X.xe (some (assign (.Name y py) X.env)) (fun _ s' => SP X pins Dn .next s') acc C) S hc hg hb I2 T cJ f2 hB fun D C s' H' J' hn fC q => ?_
  obtain ⟨m, oC, es, ep, ho, hd, hr⟩ := hn
  obtain ⟨c0, c1, c2, c3, c4, c5⟩ := fC
  have J2 : Inv X (pins ++ [(C, oC)]) σ H' s' := J'.hW fun p hp => by
   rcases List.mem_append.mp hp with z | z
   ·exact J'.pin p (List.mem_append_right _ z)
   ·have : p = (C, oC) := by simpa using z
    subst this
    exact ⟨ho, c0, c1, c2, fun v z => by rw [hd] at z; cases z⟩
  show wpAny _ X.A (assign (.Name y py) X.env (.ref D)) _ _ _
  refine aq (bz (X := X) hN hy (.inl hl) (.inr hl) _ s' σ H' (.ref D) (.ref D) (fun σ' j5 => σ' = σ.set i (some (.ref D)) /\ j5 = H') J2 rfl ⟨rfl, rfl⟩) fun _ s3 ⟨σ3, H3, J3, e1, e2⟩ => ?_
  subst e1 e2
  obtain ⟨pc, LC, _⟩ := J3.pin (C, oC) (List.mem_append_right _ (List.mem_append_right _ (List.mem_singleton.mpr rfl)))
  refine ⟨m, ⟨oC, es, ep, pc, hd, hr⟩, fun h' sb => ⟨_, H3, J3.oV.turned (it := C) (fun b o hb e => sb.extBut b o hb e) c0 c1 c3 c4 c5, q⟩⟩
end
end Gz
namespace Gz
open PySem PySem.Spec PyProof.Rows L2
section
variable {X : Cx} {K : PySem.W.Frag}
variable {ρ : L2.St} {tt : TT} {te : TE} {H : Hp} {Q : VK} {a b : Addr} {xs ys : List V}
end
end Gz
namespace Gz
open PySem PySem.Spec PyProof.Rows L2
mutual
noncomputable def eO : Nat -> PyData -> Bool
 | _, .none => true
 | _, .bool _ => true
 | _, .int _ => true
 | n + 1, .tuple ds => l8 n ds
 | n + 1, .list ds => l8 n ds
 | _, _ => false
noncomputable def l8 : Nat -> List PyData -> Bool
 | _, [] => true
 | n, d :: ds => eO n d && l8 n ds
end
mutual
theorem E2 : ∀ (d : PyData) {n : Nat}, eO n d = true -> PyData.eqv d d = true /\ d.canLay0 = true /\ d.depth <= n
 | .none, n, _ => ⟨rfl, rfl, Nat.zero_le _⟩
 | .bool b, n, _ => ⟨by simp [PyData.eqv], rfl, Nat.zero_le _⟩
 | .int i, n, _ => ⟨by simp [PyData.eqv], rfl, Nat.zero_le _⟩
 | .str x, 0, h => by simp [eO] at h
 | .str x, n + 1, h => by simp [eO] at h
 | .dict x, 0, h => by simp [eO] at h
 | .dict x, n + 1, h => by simp [eO] at h
 | .tuple ds, 0, h => by simp [eO] at h
 | .list ds, 0, h => by simp [eO] at h
 | .tuple ds, n + 1, h => by
  obtain ⟨a, b, c⟩ := yF ds (n := n) (by simpa [eO] using h)
  exact ⟨by simpa only [PyData.eqv] using a, by simpa only [PyData.canLay0] using b, by simp only [PyData.depth]; omega⟩
 | .list ds, n + 1, h => by
  obtain ⟨a, b, c⟩ := yF ds (n := n) (by simpa [eO] using h)
  exact ⟨by simpa only [PyData.eqv] using a, by simpa only [PyData.canLay0] using b, by simp only [PyData.depth]; omega⟩
theorem yF : ∀ (ds : List PyData) {n : Nat}, l8 n ds = true -> PyData.eqvAll ds ds = true /\ PyData.canLayAll0 ds = true /\ PyData.depthAll ds <= n
 | [], n, _ => ⟨rfl, rfl, Nat.zero_le _⟩
 | d :: ds, n, h => by
  have h' : eO n d = true /\ l8 n ds = true := by simpa [l8] using h
  obtain ⟨a, b, c⟩ := E2 d h'.1
  obtain ⟨a', b', c'⟩ := yF ds h'.2
  exact ⟨by simp only [PyData.eqvAll, a, a', Bool.and_self], by simp only [PyData.canLayAll0, b, b', Bool.and_self], by simp only [PyData.depthAll]; omega⟩
end
end Gz
namespace Gz
open PySem PySem.Spec PyProof.Rows L2
end Gz
namespace Gz
open PySem PySem.Spec PyProof.Rows L2
noncomputable def ak {α : Type} (R : V -> α -> Prop) : List V -> List α -> Prop
 | [], [] => True
 | x :: xs, a :: as => R x a /\ ak R xs as
 | _, _ => False
section
variable {α : Type} {R R' : V -> α -> Prop}
theorem ak.len : ∀ {xs : List V} {as : List α}, ak R xs as -> xs.length = as.length
 | [], [], _ => rfl
 | _ :: _, _ :: _, h => by simp [ak.len h.2]
 | [], _ :: _, h => h.elim
 | _ :: _, [], h => h.elim
theorem ak.imp (f : ∀ x a, R x a -> R' x a) : ∀ {xs : List V} {as : List α}, ak R xs as -> ak R' xs as
 | [], [], _ => trivial
 | _ :: _, _ :: _, h => ⟨f _ _ h.1, ak.imp f h.2⟩
 | [], _ :: _, h => h.elim
 | _ :: _, [], h => h.elim
theorem ak.get : ∀ {xs : List V} {as : List α}, ak R xs as -> ∀ {i : Nat} {x : V}, xs[i]? = some x -> ∃ a, as[i]? = some a /\ R x a
 | [], [], _, i, x, e => by simp at e
 | _ :: _, a :: _, h, 0, x, e => by simp at e; subst e; exact ⟨a, by simp, h.1⟩
 | _ :: _, _ :: _, h, i + 1, x, e => by
  simp only [List.getElem?_cons_succ] at e ⊢
  exact ak.get h.2 e
 | [], _ :: _, h, _, _, _ => h.elim
 | _ :: _, [], h, _, _, _ => h.elim
theorem ak.at : ∀ {xs : List V} {as : List α}, ak R xs as -> ∀ {i : Nat} {a : α}, as[i]? = some a -> ∃ x, xs[i]? = some x /\ R x a
 | [], [], _, i, x, e => by simp at e
 | x :: _, _ :: _, h, 0, a, e => by simp at e; subst e; exact ⟨x, by simp, h.1⟩
 | _ :: _, _ :: _, h, i + 1, a, e => by
  simp only [List.getElem?_cons_succ] at e ⊢
  exact ak.at h.2 e
 | [], _ :: _, h, _, _, _ => h.elim
 | _ :: _, [], h, _, _, _ => h.elim
theorem ak.app : ∀ {xs ys : List V} {as bs : List α}, ak R xs as -> ak R ys bs -> ak R (xs ++ ys) (as ++ bs)
 | [], _, [], _, _, h => h
 | _ :: _, _, _ :: _, _, h, h' => ⟨h.1, ak.app h.2 h'⟩
 | [], _, _ :: _, _, h, _ => h.elim
 | _ :: _, _, [], _, h, _ => h.elim
theorem ak.snoc {xs : List V} {as : List α} {x : V} {a : α} (h : ak R xs as) (h' : R x a) : ak R (xs ++ [x]) (as ++ [a]) := h.app ⟨h', trivial⟩
theorem ak.take : ∀ {xs : List V} {as : List α} (n : Nat), ak R xs as -> ak R (xs.take n) (as.take n)
 | [], [], n, _ => by simp [ak]
 | _ :: _, _ :: _, 0, _ => by simp [ak]
 | _ :: _, _ :: _, n + 1, h => by simpa [ak] using ⟨h.1, ak.take n h.2⟩
 | [], _ :: _, _, h => h.elim
 | _ :: _, [], _, h => h.elim
theorem ak.drop : ∀ {xs : List V} {as : List α} (n : Nat), ak R xs as -> ak R (xs.drop n) (as.drop n)
 | [], [], n, _ => by simp [ak]
 | _ :: _, _ :: _, 0, h => by simpa using h
 | _ :: _, _ :: _, n + 1, h => by simpa using ak.drop n h.2
 | [], _ :: _, _, h => h.elim
 | _ :: _, [], _, h => h.elim
theorem ak.g9 {lo : Int} (n : Nat) : ak (fun x (k : Nat) => x = V.int (lo + k)) ((List.range n).map fun k => V.int (lo + (k : Nat))) (List.range n) := by
 suffices ∀ l : List Nat, ak (fun x (k : Nat) => x = V.int (lo + k)) (l.map fun k => V.int (lo + (k : Nat))) l from this _
 intro l
 induction l with
 | nil => trivial
 | cons a l ih => exact ⟨rfl, ih⟩
end
theorem filter_tt {α : Type} (l : List α) : l.filter (fun _ => true) = l := List.filter_eq_self.mpr fun _ _ => rfl
noncomputable abbrev P2 := Int × Int
noncomputable def aW (H : Hp) (v : V) (p : P2) : Prop := ∃ a, v = .ref a /\ H a = some (.tup [.int p.1, .int p.2])
theorem aW.same {H H' : Hp} {v : V} {p : P2} (h : aW H v p) (s : aj H H') : aW H' v p := let ⟨a, e, q⟩ := h; ⟨a, e, s _ _ q⟩
theorem aW.new {H : Hp} {a : Addr} {x y : Int} : aW (upd H a (.tup [.int x, .int y])) (.ref a) (x, y) := ⟨a, rfl, aw⟩
theorem aW.put {H : Hp} {v : V} {p : P2} {r : Addr} {ys zs : List V} (h : aW H v p) (hr : H r = some (.lst ys)) : aW (upd H r (.lst zs)) v p := by
 obtain ⟨a, e, q⟩ := h
 refine ⟨a, e, ?_⟩
 rw [ay (xA q hr (fun z => nomatch z))]; exact q
noncomputable abbrev cc (H : Hp) : List V -> List P2 -> Prop := ak (aW H)
theorem cc.same {H H' : Hp} {xs : List V} {ps : List P2} (h : cc H xs ps) (s : aj H H') : cc H' xs ps := ak.imp (fun _ _ r => r.same s) h
theorem cc.put {H : Hp} {xs : List V} {ps : List P2} {r : Addr} {ys zs : List V} (h : cc H xs ps) (hr : H r = some (.lst ys)) : cc (upd H r (.lst zs)) xs ps := ak.imp (fun _ _ x => x.put hr) h
noncomputable def E3 (p : P2) : PyData := .tuple [.int p.1, .int p.2]
theorem cc.dat {K : PySem.W.Frag} {H : Hp} : ∀ {xs : List V} {ps : List P2}, cc H xs ps -> eN K H xs (ps.map E3)
 | [], [], _ => .nil
 | _ :: _, _ :: _, h => by
  obtain ⟨a, rfl, q⟩ := h.1
  exact .cons (.tup (ar.of q) (.cons (.int _) (.cons (.int _) .nil))) (cc.dat h.2)
 | [], _ :: _, h => h.elim
 | _ :: _, [], h => h.elim
noncomputable def tY (ns : List Int) : Bool := (ns.zip (ns.drop 1)).all fun r => decide (r.1 < r.2)
theorem L5 {ns : List Int} : tY ns = true ↔ ∀ i, i + 1 < ns.length -> ns.getD i 0 < ns.getD (i + 1) 0 := by
 unfold tY
 rw [List.all_eq_true]
 constructor
 ·intro h i hi
  have e : (ns.zip (ns.drop 1))[i]? = some (ns.getD i 0, ns.getD (i + 1) 0) := by
   rw [List.getElem?_zip_eq_some, List.getElem?_drop, List.getD_eq_getElem?_getD, List.getD_eq_getElem?_getD, List.getElem?_eq_getElem (show i < ns.length by omega), show 1 + i = i + 1 by omega, List.getElem?_eq_getElem hi]
   exact ⟨rfl, rfl⟩
  simpa using h _ (List.mem_of_getElem? e)
 ·intro h r hr
  obtain ⟨i, hi⟩ := List.mem_iff_getElem?.mp hr
  rw [List.getElem?_zip_eq_some, List.getElem?_drop] at hi
  have h1 := (List.getElem?_eq_some_iff.mp hi.2).1
  have := h i (by omega)
  rw [List.getD_eq_getElem?_getD, List.getD_eq_getElem?_getD, hi.1, show i + 1 = 1 + i by omega, hi.2] at this
  simpa using this
noncomputable def ba (ps : List P2) (i : Nat) : P2 := ps.getD i (0, 0)
end Gz
namespace Gz
open PySem PySem.Spec PyProof.Rows L2
end Gz
namespace Gz
open PySem PySem.Spec PyProof.Rows L2
end Gz
namespace Gz
open PySem PySem.Spec PyProof.Rows L2
noncomputable def qe (s e : P2) (p q t b : Int) : Prop := (t - s.2 * b) * (e.1 - s.1) * q = (p - s.1 * q) * (e.2 - s.2) * b
noncomputable def tZ (ks : List P2) (p q : Int) (i : Nat) : Prop := i + 1 < ks.length /\ (ba ks i).1 * q <= p /\ p <= (ba ks (i + 1)).1 * q
noncomputable def hit (ks : List P2) (p q : Int) : Prop := ∃ i, tZ ks p q i
structure Led (ks : List P2) (p q t b : Int) : Prop where
 pos : 1 <= b
 low : tq t b = 1
 on : ∀ i, tZ ks p q i -> qe (ba ks i) (ba ks (i + 1)) p q t b
theorem E4 {ks : List P2} {i : Nat} (h : i < ks.length) : (ks.map (·.1)).getD i 0 = (ba ks i).1 := by
 unfold ba
 rw [List.getD_eq_getElem?_getD, List.getElem?_map, List.getD_eq_getElem?_getD, List.getElem?_eq_getElem h]; rfl
theorem E5 {ks : List P2} (h : tY (ks.map (·.1)) = true) : ∀ {i j : Nat}, i < j -> j < ks.length -> (ba ks i).1 < (ba ks j).1 := by
 rw [L5] at h
 have st : ∀ i, i + 1 < ks.length -> (ba ks i).1 < (ba ks (i + 1)).1 := fun i hi => by
  have := h i (by rw [List.length_map]; exact hi)
  rwa [E4 (by omega), E4 hi] at this
 intro i j dI hj
 induction j with
 | zero => omega
 | succ j ih =>
  by_cases e : i = j
  ·subst e; exact st i hj
  ·exact Int.lt_trans (ih (by omega) (by omega)) (st j hj)
theorem L6 {a b c : P2} {p q t w : Int} (hq : 0 < q) (cM : a.1 < b.1) (h1 : p = b.1 * q) (h : qe a b p q t w) : qe b c p q t w := by
 unfold qe at *
 subst h1
 have e : (t - b.2 * w) * ((b.1 - a.1) * q) = 0 := by grind
 have n : (b.1 - a.1) * q ≠ 0 := Int.mul_ne_zero (by omega) (by omega)
 have := (Int.mul_eq_zero.mp e).resolve_right n
 have e2 : t - b.2 * w = 0 := this
 rw [e2]; grind
theorem Led.of {ks : List P2} {p q t b : Int} {i : Nat} (hr : tY (ks.map (·.1)) = true) (hq : 0 < q) (h1 : 1 <= b) (h2 : tq t b = 1) (hi : tZ ks p q i) (first : ∀ j, j < i -> ¬ tZ ks p q j) (h : qe (ba ks i) (ba ks (i + 1)) p q t b) : Led ks p q t b := by
 refine ⟨h1, h2, fun j hj => ?_⟩
 by_cases e : j = i
 ·rw [e]; exact h
 by_cases lt : j < i
 ·exact absurd hj (first j lt)
 by_cases e1 : j = i + 1
 ·subst e1
  have l1 := E5 hr (i := i) (j := i + 1) (by omega) (by have := hj.1; omega)
  exact L6 hq l1 (by have := hi.2.2; have := hj.2.1; omega) h
 ·have l1 := E5 hr (i := i + 1) (j := j) (by omega) (by have := hj.1; omega)
  have : (ba ks (i + 1)).1 * q < (ba ks j).1 * q := Int.mul_lt_mul_of_pos_right l1 hq
  have a1 := hi.2.2
  have a2 := hj.2.1
  omega
noncomputable def E6 (H : Hp) (v : V) (t b : Int) : Prop := ∃ a, v = .ref a /\ H a = some (.tup [.int t, .int b])
theorem E6.p {K : PySem.W.Frag} {H : Hp} {v : V} {t b : Int} (h : E6 H v t b) : K9 K H v t b := let ⟨a, e, q⟩ := h; ⟨a, e, ar.of q⟩
noncomputable def SameBut (x : Addr) (H H' : Hp) : Prop := ∀ b o, b ≠ x -> H b = some o -> H' b = some o
end Gz
namespace Gz
open PySem PySem.Spec PyProof.Rows L2
theorem E7 {ps : List P2} {i : Nat} (hi : i < ps.length) : ba ps i ∈ ps := by
 unfold ba; rw [List.getD_eq_getElem?_getD, List.getElem?_eq_getElem hi]; exact List.getElem_mem hi
end Gz
namespace Gz
open PySem PySem.Spec PyProof.Rows L2
theorem l9 {α β : Type} {R : Hp -> V -> α -> Prop} {R' : Hp -> V -> β -> Prop} {Ok : Hp -> Prop} {ρ : L2.St} {tt : TT} {te : TE} {f : α -> β} {Q' : List V -> Hp -> Prop} (mono : ∀ H H' x a, aj H H' -> R H x a -> R H' x a) (md : ∀ H H' x a, aj H H' -> R' H x a -> R' H' x a) :
 ∀ {xs : List V} {as : List α} {ys : List V} {bs : List β} {H : Hp}, ak (R H) xs as -> ak (R' H) ys bs -> (∀ H', aj H H' -> Ok H') -> (∀ x a, a ∈ as -> ∀ H', aj H H' -> R H' x a -> ∀ Q, Q true H' -> tt (some x :: ρ) H' Q) ->
 (∀ x a, a ∈ as -> ∀ H', aj H H' -> R H' x a -> ∀ Q : VK, (∀ j5 y, aj H' j5 -> R' j5 y (f a) -> Q y j5) -> te (some x :: ρ) H' Q) ->
 (∀ H' zs, aj H H' -> ak (R' H') zs (bs ++ as.map f) -> Q' zs H') -> dr Ok ρ tt te xs ys H Q'
 | [], [], ys, bs, H, _, hy, cp, _, _, q => ⟨cp H (aj.refl H), q H ys (aj.refl H) (by simpa using hy)⟩
 | x :: xs, a :: as, ys, bs, H, h, hy, cp, ht, he, q => by
  refine ⟨cp H (aj.refl H), ht x a (.head _) H (aj.refl H) h.1 _ ?_⟩
  rw [if_pos rfl]
  refine he x a (.head _) H (aj.refl H) h.1 _ fun H2 y s2 r2 => ?_
  refine l9 mono md (bs := bs ++ [f a]) (h.2.imp fun x a r => mono _ _ _ _ s2 r) ((hy.imp fun x a r => md _ _ _ _ s2 r).snoc r2) (fun H' s' => cp H' (s2.trans s')) (fun x a ha H' s' => ht x a (.tail _ ha) H' (s2.trans s')) (fun x a ha H' s' => he x a (.tail _ ha) H' (s2.trans s')) fun H' zs s' hz => ?_
  refine q H' zs (s2.trans s') ?_
  rw [List.map_cons]
  rwa [List.append_assoc] at hz
 | [], _ :: _, _, _, _, h, _, _, _, _, _ => h.elim
 | _ :: _, [], _, _, _, h, _, _, _, _, _ => h.elim
end Gz
namespace Gz
open PySem PySem.Spec PyProof.Rows L2
end Gz
namespace Gz
open PySem PySem.Spec PyProof.Rows L2
theorem x4 {us : List Value} {ns : List Int} (h : IntsAre us ns) : Vals (ns.map V.int) us := by
 induction h with
 | nil => exact .nil
 | cons n t r ih => exact .cons ⟨t, rfl⟩ ih
noncomputable abbrev L7 (H : Hp) (v : V) (s : S2) : Prop := aQ H v s.1 s.2
theorem dO.all : ∀ {H : Hp} {xs : List V} {ss : List S2}, dO H xs ss -> ak (L7 H) xs ss
 | _, [], [], _ => trivial
 | _, _ :: _, _ :: _, h => ⟨h.1, dO.all h.2⟩
 | _, [], _ :: _, h => h.elim
 | _, _ :: _, [], h => h.elim
noncomputable def cellsFrom : En -> List Int -> List S2
 | lo, [] => [(lo, none)]
 | lo, z :: zs => (lo, some (z - 1)) :: cellsFrom (some z) zs
end Gz
namespace Gz
open PySem PySem.Spec PyProof.Rows L2
end Gz
namespace Gz
open PySem PySem.Spec PyProof.Rows L2
end Gz
namespace Gz
open PySem PySem.Spec PyProof.Rows L2
section
variable {X : Cx} {CX : cK} {k : Nat} {f C : Addr} {fd : FuncData} {ps : List Str} {ds : List Value} {bO : List V} {sp : Sp} {E : XK} {x m : Str} {p pos apos : Pos} {e : Expr} {es : List Expr} {t : TA}
end
section
variable {X : Cx}
noncomputable def t7 (ta : TA) : TE := fun σ H Q => ta σ H fun vs H1 => ∃ j : Int, vs = [.int j] /\ 0 <= j /\ j <= 1000 /\ ∀ r, H1 r = none -> Q (.ref r) (upd H1 r (.g9 0 j))
end
section
variable {X : Cx} {CX : cK} {k : Nat} {f : Addr} {fd : FuncData} {ps : List Str} {ds : List Value} {bO : List V} {sp : Sp} {E : XK} {m : Str} {pos apos : Pos} {o e : Expr} {es : List Expr} {ta : TE} {t : TA}
noncomputable def t8 (K : PySem.W.Frag) (m : Str) (f : Addr) (sp : Sp) (bO : List V) (E : XK) (ta : TE) (t : TA) : TE := fun σ H Q => ta σ H fun x H1 => ∃ a C dx fs, x = .ref a /\ H1 a = some (.ins C dx fs) /\ eh K C /\ Meth K C m f /\ fs.lookup m = none /\
 t σ H1 fun vs H2 => sp (.ref a :: (vs ++ bO)) H2 Q E
end
noncomputable abbrev W2 := Option S2
noncomputable def iz (H : Hp) (v : V) : W2 -> Prop
 | none => v = .non
 | some s => aQ H v s.1 s.2
theorem iz.same {H H' : Hp} {v : V} {w : W2} (h : iz H v w) (s : aj H H') : iz H' v w := by
 cases w with
 | none => exact h
 | some a => exact aQ.same h s
end Gz
namespace Gz
open PySem L2 PySem.W PySem.Spec PyProof.Rows
noncomputable def Bt (n : Nat) (x : Int) : Prop := Builtin.Int.intBits x <= n
theorem Bt.add {n : Nat} {x y : Int} (h : Bt n x) (h' : Bt n y) : Bt (n + 1) (x + y) := by
 have := PyProof.Rows.bits_add h h'
 rwa [Nat.max_self] at this
theorem Bt.mul {n m : Nat} {x y : Int} (h : Bt n x) (h' : Bt m y) : Bt (n + m) (x * y) := PyProof.Rows.bits_mul h h'
theorem Bt.up {n m : Nat} {x : Int} (h : Bt n x) (hm : n <= m) : Bt m x := Nat.le_trans h hm
theorem Bt.small {x : Int} (h1 : -(2 ^ 64) < x) (h2 : x < 2 ^ 64) : Bt 64 x := PySem.intBits_le_64 h1 h2
noncomputable def iA (i j : Int) : Prop := Bt 40000000 i /\ Bt 40000000 j
theorem iA.ok {i j : Int} (h : iA i j) : IntMulOk i j := PyProof.Rows.mulOk_of_bits h.1 h.2 (by decide)
theorem qf {X : Cx} : bW X (binaryOp .Mult) (rI iA fun i j => .int (i * j)) := rZ fun _ _ _ _ _ _ _ hc q => mul_int q hc.ok
noncomputable def dP (ns : List Int) : Prop := ns.length <= 63 /\ ∀ x ∈ ns, Bt 1048576 x
theorem weigh : ∀ (ns : List Int) (x : Int), x ∈ ns -> Builtin.Int.intBits x <= PySem.W.WData.weightAll (ns.map PySem.W.WData.int)
 | [], x, h => by simp at h
 | y :: ns, x, h => by
  have e : PySem.W.WData.weightAll ((y :: ns).map PySem.W.WData.int) = (if y == 0 then 0 else y.natAbs.log2 + 1) + 1 + PySem.W.WData.weightAll (ns.map PySem.W.WData.int) := by
   rw [List.map_cons]
   simp only [PySem.W.WData.weightAll, PySem.W.WData.weight]
  rw [e]
  rcases List.mem_cons.mp h with rfl | h
  ·unfold Builtin.Int.intBits
   omega
  ·have := weigh ns x h
   omega
theorem L8 {ns : List Int} (h : PySem.W.WData.layableAll [PySem.W.WData.list (ns.map PySem.W.WData.int)] = true) : ∀ x ∈ ns, Bt 1048576 x := by
 intro x hx
 have h1 : PySem.W.WData.layable (PySem.W.WData.list (ns.map PySem.W.WData.int)) = true := by
  have : (PySem.W.WData.layable (PySem.W.WData.list (ns.map PySem.W.WData.int)) && true) = true := h
  rwa [Bool.and_true] at this
 unfold PySem.W.WData.layable at h1
 rw [Bool.and_eq_true] at h1
 have h2 := of_decide_eq_true h1.2
 have h3 := weigh ns x hx
 simp only [PySem.W.WData.weight] at h2
 unfold Bt
 omega
theorem L9 {l : PySem.W.OpenLaw} {k : Nat} {q : Program} {loose : List Str} {XP : (Str -> Option Value) -> Heap -> Prop} {YP : World -> Heap -> Prop} {d : DefRec} {K : Params -> PySem.W.Frag} {CX : World -> cK} {sp : World -> Sp} {x : Str}
 (most : l.most = some 63) (plain : d.params.defaults = []) (room : bE k callerA)
 (Ma : ∀ (w : World) (h : Heap), YP w h -> (K w.params).In h)
 (F : ∀ (w : World) (mg : Str -> Option Value) (fa : Addr) (h : Heap), (K w.params).In h -> h.Ns mainGlobals mg -> mg d.name = some (.ref fa) ->
   ∃ fd : FuncData, (∀ (s : Shared) (u : Value), BindsTo s fd ⟨[u], []⟩ [(x, u)]) /\
    ∀ base : Heap, (K w.params).In base -> base.Ns mainGlobals mg -> aL l.prog w (K w.params) mg base (CX w) k fa fd [x] (sp w))
 (law : ∀ (w : World) (H : Hp) (a : Addr) (ns : List Int), dP ns -> ai (K w.params) H a (ns.map V.int) -> sp w [.ref a] H (fun v _ => v = .bl true) fun _ _ _ => False)
 (calm : ∀ (w : World) (H : Hp) (s : Shared) (e : Value) (s' : Shared), CX w [] H s (fun _ _ _ => False) e s' -> False) :
 PySem.W.WalkO q loose XP YP l.row.toRowW d [] (fun f vs => PySem.call f vs) := by
 intro w t₀ t mg mb G Y f ob pm cd doc dV kV look data code defs at_ gens args vals as pre lay _ well _
 have e1 : dV = .none := Dflts.none defs plain
 have e2 : kV = .none := Dflts.noKw defs
 cases e1
 cases e2
 obtain ⟨a, vs, ns, e3, e4, obj, are, len⟩ := x3.Ks most pre well
 cases e3
 cases e4
 have KX := Ma w _ Y
 obtain ⟨fd, bind, ok⟩ := F w mg f _ KX G.T.g at_
 have run := Kv KX G.T.g G.T.b G.T.builtins G.T.nolimit gens obj are (Nat.le_trans len (by decide)) room ok bind
  (fun H _ S => law w H a ns ⟨len, L8 lay⟩ S) fun H e s' => calm w H t e s'
 refine enter_call (codeAny_mono run ?_)
 rintro r s' ⟨rfl, old, os, bare⟩
 exact ⟨.inl ⟨.bool true, .bool true, [], rfl, fun _ => rfl, .bool true, x3.Ku l _, fun _ => ⟨List.Pairwise.nil, fun _ z => (nomatch z)⟩⟩, old, os, bare⟩
noncomputable def dt (ns : List Int) (k : Int) : Int := if 0 < (ns.length : Int) then ns.getD (k % (ns.length : Int)).toNat 0 else 0
theorem E8 {ns : List Int} (h : dP ns) (k : Int) : Bt 1048576 (dt ns k) := by
 unfold dt
 split
 ·rw [List.getD_eq_getElem?_getD]
  cases e : ns[(k % (ns.length : Int)).toNat]? with
  | none => exact (Bt.small (by decide) (by decide)).up (by decide)
  | some n => exact h.2 _ (List.mem_of_getElem? e)
 ·exact (Bt.small (by decide) (by decide)).up (by decide)
theorem E9 {ns : List Int} {k : Int} (h : 0 < (ns.length : Int)) : cV (ns.map V.int) (k % (ns.length : Int)) = some (.int (dt ns k)) := by
 have h1 := Int.emod_nonneg k (show (ns.length : Int) ≠ 0 by omega)
 have h2 := Int.emod_lt_of_pos k h
 unfold dt
 rw [if_pos h]
 have ek : k % (ns.length : Int) = (((k % (ns.length : Int)).toNat : Nat) : Int) := by omega
 refine (congrArg (cV _) ek).trans (gA ?_)
 rw [List.getElem?_map, List.getD_eq_getElem?_getD, List.getElem?_eq_getElem (by omega)]
 rfl
theorem Mb {ns : List Int} (h : dP ns) {k : Int} (hk : -1000000 <= k /\ k <= 1000000) : iA k k /\ iA (dt ns k + 1009) (dt ns k + 48271 + k * k) := by
 have c := E8 h k
 have k1 : Bt 64 k := Bt.small (by omega) (by omega)
 have k2 : Bt 128 (k * k) := k1.mul k1
 have n1 : Bt 1048576 1009 := (Bt.small (by decide) (by decide)).up (by decide)
 have n2 : Bt 1048576 48271 := (Bt.small (by decide) (by decide)).up (by decide)
 exact ⟨⟨k1.up (by decide), k1.up (by decide)⟩, (c.add n1).up (by decide), ((c.add n2).add (k2.up (by decide))).up (by decide)⟩
theorem Mc {ns : List Int} (h : dP ns) (k : Int) : iA 2147483629 (dt ns k) /\ iA (2147483629 * dt ns k) (dt ns k) /\ iA (2147483629 * dt ns k * dt ns k) (dt ns k) := by
 have c := E8 h k
 have n1 : Bt 64 2147483629 := Bt.small (by decide) (by decide)
 have c1 := n1.mul c
 have c2 := c1.mul c
 exact ⟨⟨n1.up (by decide), c.up (by decide)⟩, ⟨c1.up (by decide), c.up (by decide)⟩, c2.up (by decide), c.up (by decide)⟩
end Gz
namespace Gz
open PySem PySem.Spec PyProof.Rows L2
end Gz
namespace Gz
open PySem PySem.Spec PyProof.Rows L2
theorem yG {vs : List Int} {p : Int} (h0 : 0 <= p) (h1 : p < (vs.length : Int)) : ∃ v, v ∈ vs /\ cV (vs.map V.int) p = some (.int v) := by
 have e : p = ((p.toNat : Nat) : Int) := by omega
 refine ⟨vs[p.toNat]'(by omega), List.getElem_mem _, ?_⟩
 refine (congrArg (cV _) e).trans (gA ?_)
 rw [List.getElem?_map, List.getElem?_eq_getElem (by omega)]
 rfl
theorem Fb {x : Int} (h : x.natAbs < 2 ^ 600) : Bd 4000 x := Bd.up (n := 600) h (by decide)
theorem fk {x y : Int} (h : x.natAbs < 2 ^ 600) (h' : y.natAbs < 2 ^ 600) : pJ x y := ⟨Fb h, Fb h'⟩
end Gz
namespace Gz
end Gz
namespace Gz
open PySem L2
theorem aO {a b : TS} {D : Ends} {σ : L2.St} {H : Hp} (I : L2.St -> Hp -> Prop) (h1 : ∀ N : L2.St -> Hp -> Prop, (∀ σ H, I σ H -> N σ H) -> a { D with nx := N } σ H) (h2 : ∀ σ H, I σ H -> b D σ H) : k8 a b D σ H := h1 _ h2
end Gz
namespace Gz
open PySem L2 PySem.W PySem.Spec PyProof.Rows
noncomputable def pre (f : P2 -> Int) (ps : List P2) (i : Nat) : Int := ((ps.take i).map f).sum
theorem j7 (f : P2 -> Int) (ps : List P2) {i : Nat} (h : i < ps.length) : pre f ps (i + 1) = pre f ps i + f (ba ps i) := by
 unfold pre ba
 rw [List.take_succ, List.map_append, List.sum_append, List.getD_eq_getElem?_getD, List.getElem?_eq_getElem h]
 simp only [Option.toList_some, List.map_cons, List.map_nil, List.sum_cons, List.sum_nil, Int.add_zero, Option.getD_some]
noncomputable def cC (ps : List P2) (i j : Nat) : Int := if i <= j then pre (·.2) ps j - pre (·.2) ps i else pre (·.1) ps j - pre (·.1) ps i
noncomputable def iB (ps : List P2) : Prop := ∀ p ∈ ps, p.1 <= p.2
theorem Fc {ps : List P2} (h : iB ps) (i : Nat) : ∀ n, i + n <= ps.length -> pre (·.1) ps (i + n) - pre (·.1) ps i <= pre (·.2) ps (i + n) - pre (·.2) ps i
 | 0, _ => by simp
 | n + 1, hn => by
  have ih := Fc h i n (by omega)
  rw [show i + (n + 1) = (i + n) + 1 by omega, j7 _ ps (by omega), j7 _ ps (by omega)]
  have := h _ (E7 (ps := ps) (i := i + n) (by omega))
  omega
theorem me {ps : List P2} (h : iB ps) {i j : Nat} (dI : i <= j) (hj : j <= ps.length) : pre (·.1) ps j - pre (·.1) ps i <= pre (·.2) ps j - pre (·.2) ps i := by
 have := Fc h i (j - i) (by omega)
 rwa [show i + (j - i) = j by omega] at this
theorem Md {ps : List P2} (h : iB ps) {i j k : Nat} (hi : i <= ps.length) (hj : j <= ps.length) (hk : k <= ps.length) : cC ps i j <= cC ps i k + cC ps k j := by
 have a := fun h' => me h (i := i) (j := j) h' hj
 have b := fun h' => me h (i := j) (j := i) h' hi
 have c := fun h' => me h (i := i) (j := k) h' hk
 have d := fun h' => me h (i := k) (j := i) h' hi
 have e := fun h' => me h (i := j) (j := k) h' hk
 have f := fun h' => me h (i := k) (j := j) h' hj
 unfold cC
 split <;> split <;> split <;> omega
noncomputable def part (ps : List P2) (i j k : Nat) : Int := if i < j then pre (·.2) ps (min i j + k) - pre (·.2) ps i else pre (·.1) ps j - pre (·.1) ps (min i j + k)
end Gz
namespace Gz
open PySem PySem.Spec PyProof.Rows L2
noncomputable def bits (bs : List Int) : Prop := ∀ x ∈ bs, x = 0 ∨ x = 1
theorem Me {H : Hp} {x dx C : Addr} {fs : List (Str × V)} (hx : H x = none) (hd : H dx = none) (hn : dx ≠ x) : aj H (upd (upd H dx (.own x)) x (.ins C dx fs)) :=
 (aB hd).trans (aB (by rw [ay (Ne.symm hn)]; exact hx))
noncomputable abbrev Lk := Option (List Int)
noncomputable def yH (xs : List Addr) (H : Hp) (v : V) : Lk -> Prop
 | none => v = .non
 | some bs => ∃ l, v = .ref l /\ l ∉ xs /\ H l = some (.lst (bs.map V.int))
noncomputable abbrev IsL := yH []
theorem yH.l {xs : List Addr} {H : Hp} {v : V} {k : Lk} (h : yH xs H v k) : IsL H v k := by
 cases k with
 | none => exact h
 | some bs => obtain ⟨l, a, b, c⟩ := h; exact ⟨l, a, (fun z => nomatch z), c⟩
end Gz
namespace Gz
open PySem PySem.Spec PyProof.Rows L2
local macro_rules | `(tactic| walk_at "om") => `(tactic| ((try simp only [PySem.Addr] at *); omega))
section
variable {κ : Type} [DecidableEq κ]
noncomputable def dg (xs : List (κ × Addr × Value)) (k : κ) : List (κ × Addr × Value) := xs.filter fun x => decide (x.1 ≠ k)
theorem Mf {xs : List (κ × Addr × Value)} {k : κ} (h : k ∉ xs.map (·.1)) : dg xs k = xs := by
 unfold dg
 rw [List.filter_eq_self]
 intro x hx
 rw [decide_eq_true_eq]
 exact fun z => h (List.mem_map.mpr ⟨x, hx, z⟩)
theorem Fd : ∀ {xs : List (κ × Addr × Value)} {k : κ} {j : Nat} {p : Addr × Value}, (xs.map (·.1)).Nodup -> xs[j]? = some (k, p) -> xs.eraseIdx j = dg xs k
 | [], _, _, _, _, h => by simp at h
 | x :: r, k, 0, p, hn, h => by
  rw [List.map_cons, List.nodup_cons] at hn
  simp at h
  subst h
  have e : dg ((k, p) :: r) k = dg r k := by unfold dg; rw [List.filter_cons, if_neg (by simp)]
  rw [e, Mf hn.1]; rfl
 | x :: r, k, j + 1, p, hn, h => by
  rw [List.map_cons, List.nodup_cons] at hn
  rw [List.getElem?_cons_succ] at h
  have ne : ¬ x.1 = k := fun z => hn.1 (z ▸ List.mem_map.mpr ⟨_, List.mem_of_getElem? h, rfl⟩)
  have e : dg (x :: r) k = x :: dg r k := by unfold dg; rw [List.filter_cons, if_pos (by simpa using ne)]
  rw [e, List.eraseIdx_cons_succ, Fd hn.2 h]
theorem Fe {α β : Type} (f : α -> β) : ∀ (l : List α) (j : Nat), (l.map f).eraseIdx j = (l.eraseIdx j).map f
 | [], _ => rfl
 | _ :: _, 0 => rfl
 | x :: l, j + 1 => by rw [List.map_cons, List.eraseIdx_cons_succ, Fe f l j]; rfl
theorem Mg {xs : List (κ × Addr × Value)} {k : κ} (hn : (xs.map (·.1)).Nodup) : ((dg xs k).map (·.1)).Nodup := hn.sublist ((List.filter_sublist).map _)
end
theorem Ff {prog : Program} {w : World} {K : Type} [DecidableEq K] {knd : HeapKind prog w K} {es : Array DictEntry} {xs : List (K × Addr × Value)} {k : K} (he : es.toList = xs.map (entryOfKey knd)) (h : es.isEmpty = true) : atKey xs k = none := by
 have e : es.size = 0 := by simpa using h
 have l := size_of_entries he
 have : xs = [] := List.length_eq_zero_iff.mp (by omega)
 rw [this]; rfl
theorem KT.out {H : Hp} {kvs : List (List Key × V)} {xs : List (List Key × Addr × Value)} (r : KT H kvs xs) (k : List Key) : KT H (eE kvs k) (dg xs k) := by
 unfold eE dg
 induction r with
 | nil => exact .nil
 | @cons p q ps qs h t ih =>
  rw [List.filter_cons, List.filter_cons]
  by_cases e : p.1 = k
  ·rw [if_neg (by simp [e]), if_neg (by simp [h.1.symm.trans e])]; exact ih
  ·rw [if_pos (by simp [e]), if_pos (by rw [decide_eq_true_eq]; exact fun z => e (h.1.trans z))]; exact .cons h ih
section
variable {prog : Program} {w : World} {K : Type} [DecidableEq K] {knd : HeapKind prog w K} {A : Around} {E : Value -> Shared -> Prop} {s : Shared}
theorem Fg {d a : Addr} {xs : List (K × Addr × Value)} {k : K} {Q : Option DictEntry -> Shared -> Prop} (hu : knd.room A) (dG : knd.is s.heap k a) (hm : s.heap.DictOfH knd d xs) (hsz : xs.length <= sizeLine)
 (h0 : atKey xs k = none -> Q none { s with toks := s.toks + knd.draws k })
 (h1 : ∀ p e, atKey xs k = some p -> e.val = p.2 -> ∀ h', h'.DictOfH knd d (dg xs k) -> Heap.SameBut d s.heap h' -> Q (some e) { s with heap := h', toks := s.toks + knd.draws k }) : wpAny (model prog w) A (Builtin.Dict.takeOut d (.ref a)) Q E s := by
 obtain ⟨o, es, ep, ho, hc, hd, he, his, hn⟩ := hm
 have Mh : es.size <= sizeLine := by have e := size_of_entries he; omega
 unfold Builtin.Dict.takeOut
 try with_reducible refine wpAny_holding ?_
 refine wpAny_bind (knd.pyHash hu dG ?_)
 refine wpAny_bind (wpAny_dictFind_heap (s := { s with toks := s.toks + knd.draws k }) hu dG ho hd he his hn (fun iC => ?_) fun j p hj => ?_)
 ·exact wpAny_pure (h0 (atKey_none_of_get iC))
 ·refine wpAny_bind (wpAny_dictEntries (s := { s with toks := s.toks + knd.draws k }) ho hd ?_)
  have ej := entry_at he j
  rw [hj] at ej
  rw [ej]
  refine wpAny_bind (wpAny_updateDictKeys (hz := Mh) (s := { s with toks := s.toks + knd.draws k }) ho hd (wpAny_pure (h1 p (entryOfKey knd (k, p)) (atKey_of_get hn hj) rfl _ ⟨_, _, ep + 1, Heap.get?_update_self _ ho (Obj.isFreed_of_dict (Obj.data_mapDictKeys hd _)), hc.mapDictKeys _, Obj.data_mapDictKeys hd _, ?_, ?_, Mg hn⟩ (Heap.SameBut.update ..))))
  ·rw [<- Fd hn hj]
   have lt : j < es.size := by rw [size_of_entries he]; exact (List.getElem?_eq_some_iff.mp hj).1
   rw [Array.eraseIdxIfInBounds, dif_pos lt, Array.toList_eraseIdx, he, Fe]
  ·exact fun x hx => knd.keeps (his x (List.mem_filter.mp hx).1) ho hd (Heap.SameBut.update ..)
theorem Mi {d a : Addr} {more : List Value} {Q : Value -> Shared -> Prop} {xs : List (K × Addr × Value)} {k : K} (hu : knd.room A.in1) (dG : knd.is s.heap k a) (hd : (d == sysModules) = false) (hm : s.heap.DictOfH knd d xs) (hsz : xs.length <= sizeLine) (Fh : more = [] ∨ ∃ x, more = [x])
 (h1 : ∀ p, atKey xs k = some p -> ∀ h' tk, h'.DictOfH knd d (dg xs k) -> Heap.SameBut d s.heap h' -> Q p.2 { s with heap := h', toks := tk })
 (h0 : atKey xs k = none -> ∃ x, more = [x] /\ ∀ tk, Q x { s with toks := tk }) : wpAny (model prog w) A (call (.builtin "dict.pop") (.ref d :: .ref a :: more)) Q E s := by
 have ha : argsOk "dict.pop" ⟨.ref d :: .ref a :: more, []⟩ := by
  rcases Fh with q | ⟨x, q⟩
  ·subst q; exact PySem.F.args_dict_pop_2 _ _
  ·subst q; exact PySem.F.args_dict_pop_3 _ _ _
 have g : MeetsIn prog w (Builtin.«dict.pop» ⟨.ref d :: .ref a :: more, []⟩) (fun A R s => knd.room A.in1 /\ knd.is s.heap k a /\ s.heap.DictOfH knd d xs /\ (∀ p, atKey xs k = some p -> ∀ h' tk, h'.DictOfH knd d (dg xs k) -> Heap.SameBut d s.heap h' -> R (.ok (.ret p.2)) { s with heap := h', toks := tk }) /\
  (atKey xs k = none -> ∃ x, more = [x] /\ ∀ tk, R (.ok (.ret x)) { s with toks := tk })) := .of_wp fun A R s ⟨hu, dG, hm, h1, h0⟩ => by
  obtain ⟨o, es, ep, ho, hc, hda, he, his, hn⟩ := id hm
  unfold Builtin.«dict.pop»
  refine wpAny_bind ?_
  unfold Builtin.Dict.keyAndDefault
  refine wpAny_bind (wpAny_notOrdered_dict hm.typeIs ?_)
  rcases Fh with rfl | ⟨dflt, rfl⟩
  ·show wpAny _ _ (pure (d, Value.ref a, none)) _ _ s
   refine wpAny_pure ?_
   dsimp only
   rw [if_neg (show ¬ (keyPart (Value.ref a)).isSome = true from fun z => nomatch z)]
   refine wpAny_bind (wpAny_dictEntries ho hda (wpAny_bind (wpAny_pure ?_)))
   by_cases hemp : es.isEmpty = true
   ·rw [if_pos hemp]
    refine wpAny_bind (wpAny_rule (wpAny_bind (wpAny_pure ?_)))
    rw [if_pos (show (none : Option DictEntry).isNone = true from rfl)]
    refine wpAny_bind (wpAny_missedRemoval_other hd ?_)
    obtain ⟨x, ex, hq⟩ := h0 (Ff he hemp)
    cases ex
   ·rw [if_neg hemp]
    refine wpAny_bind (Fg hu dG hm hsz (fun yI => ?_) fun p e hp yJ h' dd hs => ?_)
    ·rw [if_pos (show (none : Option DictEntry).isNone = true from rfl)]
     refine wpAny_bind (wpAny_missedRemoval_other hd ?_)
     obtain ⟨x, ex, hq⟩ := h0 yI
     cases ex
    ·rw [if_neg (show ¬ (some e).isNone = true from by simp)]
     exact wpAny_bind (wpAny_letGo (wpAny_pure ⟨e.val, rfl, by rw [yJ]; exact h1 p hp h' _ dd hs⟩))
  ·show wpAny _ _ (pure (d, Value.ref a, some dflt)) _ _ s
   refine wpAny_pure ?_
   dsimp only
   rw [if_neg (show ¬ (keyPart (Value.ref a)).isSome = true from fun z => nomatch z)]
   refine wpAny_bind (wpAny_dictEntries ho hda (wpAny_bind (wpAny_pure ?_)))
   by_cases hemp : es.isEmpty = true
   ·rw [if_pos hemp]
    refine wpAny_bind (wpAny_rule (wpAny_bind (wpAny_pure ?_)))
    rw [if_pos (show (none : Option DictEntry).isNone = true from rfl)]
    refine wpAny_bind (wpAny_missedRemoval_other hd ?_)
    obtain ⟨x, ex, hq⟩ := h0 (Ff he hemp)
    cases ex; exact wpAny_bind (wpAny_rule (wpAny_pure ⟨dflt, rfl, hq _⟩))
   ·rw [if_neg hemp]
    refine wpAny_bind (Fg hu dG hm hsz (fun yI => ?_) fun p e hp yJ h' dd hs => ?_)
    ·rw [if_pos (show (none : Option DictEntry).isNone = true from rfl)]
     refine wpAny_bind (wpAny_missedRemoval_other hd ?_)
     obtain ⟨x, ex, hq⟩ := h0 yI
     cases ex; exact wpAny_bind (wpAny_rule (wpAny_pure ⟨dflt, rfl, hq _⟩))
    ·rw [if_neg (show ¬ (some e).isNone = true from by simp)]
     exact wpAny_bind (wpAny_letGo (wpAny_pure ⟨e.val, rfl, by rw [yJ]; exact h1 p hp h' _ dd hs⟩))
 exact call_meetsIn PySem.F.slot_dict_pop hm.typeIs PySem.F.entry_dict_pop ha g ⟨hu, dG, hm, h1, h0⟩
end
noncomputable def dv (h : Heap) (d : Addr) (es : Array DictEntry) (ep : Nat) : Prop := ∃ o, h.get? d = some o /\ o.ExactDict /\ o.data = .dict es ep
theorem dv.at {h h' : Heap} {d : Addr} {es : Array DictEntry} {ep : Nat} (x : dv h d es ep) (e : ∀ o, h.get? d = some o -> h'.get? d = some o) : dv h' d es ep := let ⟨o, ho, r⟩ := x; ⟨o, e o ho, r⟩
theorem dv.lt {h : Heap} {d : Addr} {es : Array DictEntry} {ep : Nat} (x : dv h d es ep) : d < h.objs.size := let ⟨_, ho, _⟩ := x; Heap.lt_size ho
theorem dv.ty {s : Shared} {d : Addr} {es : Array DictEntry} {ep : Nat} (x : dv s.heap d es ep) : s.TypeIs (.ref d) "dict" := let ⟨o, ho, hc, _⟩ := x; ⟨o, ho, hc.1⟩
section
variable {prog : Program} {w : World} {A : Around} {E : Value -> Shared -> Prop} {s : Shared} {d it : Addr} {es : Array DictEntry} {i ep : Nat}
theorem Fi {Q : Value -> Shared -> Prop} (lo : (d == sysModules) = false) (x : dv s.heap d es ep)
 (q : Q (.ref s.heap.objs.size) { s with heap := s.heap.push { cls := .type "dict_keyiterator", data := .fields #[.ref d, .int 0 0, .int es.size 0, .int ep 0] } }) : wpAny (model prog w) A (pyIter (.ref d)) Q E s := by
 have T := x.ty
 obtain ⟨o, ho, hc, hq⟩ := x
 refine wpAny_pyIter_slot T PySem.F.slot_dict_iter (wpAny_call_entry PySem.F.slot_dict_iter T PySem.F.entry_dict_iter ?_ (PySem.F.args_dict_iter_1 _))
 unfold Builtin.«dict.__iter__»; refine wpAny_bind ?_
 unfold Builtin.Dict.dictSlotNone; refine wpAny_bind (wpAny_notOrdered_dict T ?_)
 refine wpAny_pure (a := Value.ref d) ?_
 show wpAny _ A.in1 (Builtin.Dict.showsAll d >>= _) _ _ s
 unfold Builtin.Dict.showsAll; rw [if_neg (by rw [lo]; exact Bool.false_ne_true)]
 refine wpAny_bind (wpAny_pure (wpAny_bind (wpAny_dictEntries ho hq (wpAny_bind (wpAny_dictEpoch ho hq ?_)))))
 refine wpAny_bind (wpAny_newObj_type (wpAny_pure ⟨_, rfl, "dict_keyiterator", _, ⟨_, Heap.get?_push_size _ rfl, rfl⟩, PySem.F.slot_dict_keyiterator_next.lookup, ?_⟩))
 simpa [rawInt] using q
theorem Fj {Q : Option Value -> Shared -> Prop} (hit : s.heap.IsKeyIter it d i es.size ep) (x : dv s.heap d es ep) (hi : i < es.size)
 (q : ∀ h', h'.IsKeyIter it d (i + 1) es.size ep -> Heap.SameBut it s.heap h' -> Q (some es[i].key) { s with heap := h' }) : wpAny (model prog w) A (pyNext (.ref it)) Q E s := by
 obtain ⟨o, ho, hc, hd⟩ := id hit
 obtain ⟨od, hod, dh, hdd⟩ := x
 have T := hit.typeIs
 unfold pyNext
 refine wpAny_bind (wpAny_attempt (wpAny_callSpecial?_slot (name := Str.ofString "__next__") T PySem.F.slot_dict_keyiterator_next (wpAny_call_entry PySem.F.slot_dict_keyiterator_next T PySem.F.entry_dict_keyiterator_next ?_ (PySem.F.args_dict_keyiterator_next_1 _))))
 refine wpAny_bind (wpAny_pure (wpAny_bind (wpAny_bind ?_)))
 first | refine wpAny_bind (wpAny_typeNameOfWhole_keyiter T (wpAny_pure (wpAny_bind (wpAny_fieldsOf ho hd ?_)))) | refine wpAny_bind (wpAny_typeNameOf_keyiter T (wpAny_pure (wpAny_bind (wpAny_fieldsOf ho hd ?_))))
 have ow : Builtin.Dict_items.ownsTuple "dict_keyiterator" = false := by decide
 simp only [ow, Bool.false_eq_true, if_false]; show wpAny _ A.in1 (if (Value.ref d == Value.none) = true then _ else _) _ _ s
 rw [if_neg (show ¬ (Value.ref d == Value.none) = true from Bool.false_ne_true)]
 refine wpAny_bind (wpAny_pure (wpAny_bind (wpAny_dictEntries hod hdd ?_)))
 rw [if_neg (by simp)]; refine wpAny_bind (wpAny_pure (wpAny_bind (wpAny_dictEpoch hod hdd ?_)))
 rw [if_neg (by simp)]; refine wpAny_pure ?_
 simp only [show ¬ (i : Int) < 0 by omega, if_false, Int.toNat_natCast, Array.getElem?_eq_getElem hi]; refine wpAny_bind ?_
 first | refine wpAny_bind (wpAny_typeNameOfWhole_keyiter T (wpAny_pure (wpAny_bind (wpAny_isOneOf_keyiter T ?_)))) | refine wpAny_bind (wpAny_typeNameOf_keyiter T (wpAny_pure (wpAny_bind (wpAny_isOneOf_keyiter T ?_))))
 show wpAny _ A.in1 (setField (.ref it) 1 (rawInt ((i : Int) + 1)) >>= _) _ _ s
 refine wpAny_bind (wpAny_setField ho hd (by simp) ?_)
 have j8 : (s.heap.update it (Obj.mapFields (·.setIfInBounds 1 (rawInt ((i : Int) + 1))))).IsKeyIter it d (i + 1) es.size ep := ⟨_, Heap.get?_update_self _ ho (Obj.isFreed_of_fields (Obj.data_mapFields hd _)), (Obj.cls_mapFields ..).trans hc, by rw [Obj.data_mapFields hd]; simp [rawInt]⟩
 refine wpAny_bind (wpAny_holding (wpAny_bind (wpAny_isOneOf_keyiter (s := { s with heap := s.heap.update it (Obj.mapFields (·.setIfInBounds 1 (rawInt ((i : Int) + 1)))) }) j8.typeIs ?_)))
 show wpAny _ A.in1 (pure es[i].key) _ _ _
 exact wpAny_pure (wpAny_pure ⟨_, rfl, wpAny_pure (q _ j8 (Heap.SameBut.update ..))⟩)
theorem Fl {Q : Option Value -> Shared -> Prop} (hh : A.handled = none) (hit : s.heap.IsKeyIter it d es.size es.size ep) (x : dv s.heap d es ep)
 (q : ∀ h', Heap.ExtBut it s.heap h' -> Q none { s with heap := h' }) : wpAny (model prog w) A (pyNext (.ref it)) Q E s := by
 obtain ⟨o, ho, hc, hd⟩ := id hit
 obtain ⟨od, hod, dh, hdd⟩ := x
 have T := hit.typeIs
 unfold pyNext
 refine wpAny_bind (wpAny_attempt (wpAny_callSpecial?_slot (name := Str.ofString "__next__") T PySem.F.slot_dict_keyiterator_next (wpAny_call_entry PySem.F.slot_dict_keyiterator_next T PySem.F.entry_dict_keyiterator_next ?_ (PySem.F.args_dict_keyiterator_next_1 _))))
 refine wpAny_bind (wpAny_pure (wpAny_bind (wpAny_bind ?_)))
 first | refine wpAny_bind (wpAny_typeNameOfWhole_keyiter T (wpAny_pure (wpAny_bind (wpAny_fieldsOf ho hd ?_)))) | refine wpAny_bind (wpAny_typeNameOf_keyiter T (wpAny_pure (wpAny_bind (wpAny_fieldsOf ho hd ?_))))
 have ow : Builtin.Dict_items.ownsTuple "dict_keyiterator" = false := by decide
 simp only [ow, Bool.false_eq_true, if_false]; show wpAny _ A.in1 (if (Value.ref d == Value.none) = true then _ else _) _ _ s
 rw [if_neg (show ¬ (Value.ref d == Value.none) = true from Bool.false_ne_true)]
 refine wpAny_bind (wpAny_pure (wpAny_bind (wpAny_dictEntries hod hdd ?_)))
 rw [if_neg (by simp)]; refine wpAny_bind (wpAny_pure (wpAny_bind (wpAny_dictEpoch hod hdd ?_)))
 rw [if_neg (by simp)]; refine wpAny_pure ?_
 simp only [show ¬ (es.size : Int) < 0 by omega, if_false, Int.toNat_natCast, Array.getElem?_eq_none (Nat.le_refl es.size)]; refine wpAny_bind ?_
 first | refine wpAny_bind (wpAny_typeNameOfWhole_keyiter T (wpAny_pure ?_)) | refine wpAny_bind (wpAny_typeNameOf_keyiter T (wpAny_pure ?_))
 show wpAny _ A.in1 (setField (.ref it) 0 .none >>= _) _ _ s
 refine wpAny_bind (wpAny_setField ho hd (by simp) ?_); show wpAny _ A.in1 (newExc (.type "StopIteration") [] >>= _) _ _ _
 refine wpAny_bind ?_; simp only [newExc, newTuple]
 refine wpAny_bind (wpAny_newObj_type ?_ (by size_fits)); refine wpAny_bind (m := firstArgMember _ _) (wpAny_of_eq (a := Value.none) (by first | rfl | (simp only [firstArgMember]; rfl)) ?_)
 refine wpAny_newObj_type ?_ (by size_fits); simp only [raiseNew]
 refine wpAny_bind (wpAny_handled ?_); rw [show A.in1.handled = none from hh]
 refine wpAny_bind (wpAny_pure (wpAny_throw ?_)); refine wpAny_bind (wpAny_isInstance (T := "StopIteration") (b := true) ⟨_, Heap.get?_push_size _ rfl, rfl⟩ isSubtype_stop ?_)
 exact wpAny_pure (q _ (((Heap.SameBut.update ..).extBut.push _).push _))
theorem Mj (hh : A.handled = none) (I d : Addr) (dJ : d ≠ I) (es : Array DictEntry) (ep : Nat) :
 Walks prog w A I [I, d] [I] es.size (fun i v => ∃ e, es[i]? = some e /\ v = e.key) (fun i h => h.IsKeyIter I d i es.size ep /\ dv h d es ep) where
 sub := fun b hb => by simp at hb; simp [hb]
 frame := fun _ _ _ st hk => ⟨st.1.at fun o e => hk I (by simp) o e, st.2.at fun o e => hk d (by simp) o e⟩
 item := fun i s Q E hi st hQ => by
  refine Fj st.1 st.2 hi fun h' j8 mf => ?_
  exact hQ _ h' s.toks ⟨es[i], Array.getElem?_eq_getElem hi, rfl⟩ ⟨j8, st.2.at fun o e => mf.extBut d o dJ e⟩ fun b o hb e => mf.extBut b o (fun h => hb (by simp [h])) e
 done := fun s Q E st hQ => Fl hh st.1 st.2 fun h' iD => hQ h' s.toks fun b o hb e => iD b o (fun h => hb (by simp [h])) e
 self := fun _ _ _ _ st hQ => wpAny_pyIter_keyiter st.1 hQ
theorem Fm (lo : (d == sysModules) = false) : PySem.W.KdlSrc prog w "dict" d d es.size (fun i v => ∃ e, es[i]? = some e /\ v = e.key) (fun h => dv h d es ep) where
 type := fun _ x => x.ty
 there := fun _ x => ⟨x.lt, x.lt⟩
 keep := fun _ _ x hk => x.at fun o e => hk d (.inl rfl) o e
 notList := by decide
 notTuple := by decide
 hint := fun _ _ _ _ x hq => PySem.W.kdl_hint_dict x.ty hq
 iter := fun _ _ hh x => ⟨_, _, (fun _ _ hq => Fi lo x hq), Mj hh _ d (Nat.ne_of_lt x.lt) es ep, ⟨⟨_, Heap.get?_push_size _ rfl, rfl, rfl⟩, x.at fun o e => Heap.get?_push_of_some _ e⟩⟩
end
section
variable {prog : Program} {w : World} {A : Around} {E : Value -> Shared -> Prop} {s : Shared}
noncomputable def fQ (h : Heap) (vs : List Value) (kis : List (List Int)) (i : Nat) : Prop := ∃ (p : Addr) (o : Obj) (af : List Value) (m : Nat), vs[i]? = some (.ref p) /\ h.get? p = some o /\ o.cls = .type "tuple" /\ o.data = .seq af.toArray m /\ IntsAre af (kis.getD i []) /\ af ≠ []
theorem fQ.keep {h h' : Heap} {vs : List Value} {kis : List (List Int)} {i : Nat} (x : fQ h vs kis i) (k : ∀ b o, h.get? b = some o -> (∀ n xs, o ≠ seqObj "list" xs n) -> h'.get? b = some o) : fQ h' vs kis i := by
 obtain ⟨p, o, af, m, h1, h2, h3, r⟩ := x
 exact ⟨p, o, af, m, h1, k p o h2 (fun n xs z => by rw [z] at h3; exact absurd (Value.type.inj h3) (by decide)), h3, r⟩
theorem Ml {af : List Value} {ns : List Int} (h : IntsAre af ns) (hn : af ≠ []) : ∃ i t, af[0]? = some (.int i t) := by
 cases h with
 | nil => exact absurd rfl hn
 | cons => exact ⟨_, _, rfl⟩
theorem Fn {h : Heap} : ∀ (vs : List Value) (kis : List (List Int)), kis.length = vs.length -> (∀ i, i < vs.length -> fQ h vs kis i) -> ∃ fs, PySem.W.KatTups h vs fs /\ fs.length = vs.length /\ ∀ v ∈ fs, ∃ i t, v = .int i t
 | [], _, _, _ => ⟨[], PySem.W.KatTups.nil, rfl, fun v z => by simp at z⟩
 | v :: vs, [], e, _ => by simp at e
 | v :: vs, k :: kis, e, hh => by
  obtain ⟨p, o, af, m, h1, h2, h3, h4, h5, h6⟩ := hh 0 (by simp)
  have ED : v = .ref p := by simpa using h1
  subst ED
  obtain ⟨i, t, hf⟩ := Ml h5 h6
  obtain ⟨fs, a1, a2, a3⟩ := Fn vs kis (by simpa using e) fun i hi => by
   obtain ⟨p, o, af, m, h1, r⟩ := hh (i + 1) (by simpa using hi)
   exact ⟨p, o, af, m, by simpa using h1, by simpa using r⟩
  refine ⟨.int i t :: fs, PySem.W.KatTups.cons h2 h3 h4 (by simpa using hf) a1, by simp [a2], fun v hv => ?_⟩
  rcases List.mem_cons.mp hv with z | z
  ·exact ⟨i, t, z⟩
  ·exact a3 v z
theorem Mm {a : Addr} {vs : List Value} {kis : List (List Int)} {n : Nat} {P : PySem.Fin -> Shared -> Prop} (ho : s.heap.get? a = some (seqObj "list" vs.toArray n)) (hl : kis.length = vs.length) (cO : vs.length < 64) (hk : ∀ i, i < vs.length -> fQ s.heap vs kis i)
 (fin : ∀ h', (∀ b o, b ≠ a -> s.heap.get? b = some o -> h'.get? b = some o) -> (∃ c, h'.get? a = some (seqObj "list" (List.toArray ((bT (cb kis) vs.length).toList.map fun i => vs.getD i Value.none)) c)) -> P (.done (.ret .none)) { s with heap := h' }) :
 wpAny (model prog w) A (Builtin.«list.sort» ⟨[.ref a], []⟩) P E s := by
 rw [list_sort_plain]
 have la : a < s.heap.objs.size := Heap.lt_size ho
 refine wpAny_bind (listItems_at ho rfl (wpAny_bind (listUpdate_at ho rfl ?_ (by rw [List.size_toArray, sizeLine_eq]; walk_at "om") (Nat.zero_le _))))
 obtain ⟨e1, oa⟩ : ∃ e1, (s.heap.update a (Obj.mapSeq fun _ => (#[] : Array Value))).get? a = some (seqObj "list" #[] e1) := ⟨_, get?_update_seq ho fun _ => #[]⟩
 have keep : ∀ b o, b ≠ a -> s.heap.get? b = some o -> (s.heap.update a (Obj.mapSeq fun _ => (#[] : Array Value))).get? b = some o := fun b o z e => (Heap.get?_update_other _ _ (Ne.symm z)).trans e
 refine wpAny_bind (seqEpoch_at oa rfl ?_)
 generalize s.heap.update a (Obj.mapSeq fun _ => (#[] : Array Value)) = g at oa keep ⊢
 refine wpAny_bind (wpAny_newTuple ?_ (by show vs.length <= _; rw [sizeLine_eq]; walk_at "om")); refine wpAny_bind (wpAny_newList ?_ (Nat.zero_le _))
 refine wpAny_holding ?_
 show wpAny (model prog w) A _ P E { s with heap := (g.push (seqObj "tuple" vs.toArray 0)).push (seqObj "list" #[] 0) }
 have mh : ((g.push (seqObj "tuple" vs.toArray 0)).push (seqObj "list" #[] 0)).get? a = some (seqObj "list" #[] e1) := Heap.get?_push_of_some _ (Heap.get?_push_of_some _ oa)
 have yK : ∀ b o, b ≠ a -> s.heap.get? b = some o -> ((g.push (seqObj "tuple" vs.toArray 0)).push (seqObj "list" #[] 0)).get? b = some o := fun b o z e => Heap.get?_push_of_some _ (Heap.get?_push_of_some _ (keep b o z e))
 generalize (g.push (seqObj "tuple" vs.toArray 0)).push (seqObj "list" #[] 0) = g2 at mh yK ⊢
 dsimp only
 have neT : ∀ b o, s.heap.get? b = some o -> (∀ n xs, o ≠ seqObj "list" xs n) -> b ≠ a := fun b o e z y => by rw [y, ho] at e; cases e; exact z _ _ rfl
 have Mn : ((bT (cb kis) vs.length).toList.map fun i => vs.getD i Value.none).length = vs.length := by
  rw [List.length_map, (pN (n := vs.length) (lS kis)).1.length_eq, List.length_range]
 have sz : (List.toArray ((bT (cb kis) vs.length).toList.map fun i => vs.getD i Value.none)).size <= sizeLine + 1 := by rw [List.size_toArray, Mn, sizeLine_eq]; walk_at "om"
 have done : P (.done (.ret .none)) { s with heap := g2.update a (Obj.mapSeq fun _ => List.toArray ((bT (cb kis) vs.length).toList.map fun i => vs.getD i Value.none)) } :=
  fin _ (fun b o z e => (Heap.get?_update_other _ _ (Ne.symm z)).trans (yK b o z e)) ⟨_, get?_update_seq mh fun _ => _⟩
 by_cases h2 : vs.toArray.size < 2
 ·rw [if_pos h2, if_pos h2]
  refine wpAny_bind (wpAny_pure ?_)
  rw [StateT.run_pure]
  refine wpAny_bind (wpAny_pure ?_)
  dsimp only
  have self : (List.range vs.length).map (fun i => vs.getD i Value.none) = vs := by
   apply List.ext_getElem
   ·simp
   ·intro i h1 h2
    simp [List.getD_eq_getElem?_getD, h2]
  have e0 : (arrOf (SortSt.mk' general' (vs.toArray.zip vs.toArray) #[] 7 none)).map (·.2) = List.toArray ((bT (cb kis) vs.length).toList.map fun i => vs.getD i Value.none) := by
   unfold bT
   rw [if_pos (by simpa using h2)]
   apply Array.toList_inj.mp
   rw [show (List.range vs.length).toArray.toList = List.range vs.length from rfl, self]
   show ((vs.toArray.zip vs.toArray).map (·.2)).toList = _
   simp [List.map_snd_zip]
  rw [e0]
  refine wpAny_bind (seqEpoch_at mh rfl (wpAny_bind (listUpdate_at mh rfl ?_ (Nat.zero_le _) sz)))
  simp only [bne_self_eq_false, Bool.false_eq_true, if_false]
  exact wpAny_pure done
 ·rw [if_neg h2, if_neg h2]
  have EE : 2 <= vs.length := by rw [List.size_toArray] at h2; walk_at "om"
  have eQ : ∀ i, i < vs.length -> fQ g2 vs kis i := fun i hi => (hk i hi).keep fun b o e z => yK b o (neT b o e z) e
  obtain ⟨fs, ht, lf, hi⟩ := Fn vs kis hl eQ
  have eT : (Value.type "int" != Value.type "tuple") = true := by decide
  refine wpAny_bind (PySem.W.kat_kind (s := { s with heap := g2 }) (T := .type "int") ht (by walk_at "om") (fun v hv => ?_) (by decide) ?_)
  ·obtain ⟨i, t, rfl⟩ := hi v hv
   exact PySem.W.Looks.now
  rw [eT]
  have ask : (PySem.W.kas_sort vs.length).kasWp (PySem.W.kas_ask prog w A (tuples' true) vs) (fun p s' => s' = { s with heap := g2 } /\ p = bT (cb kis) vs.length) { s with heap := g2 } := by
   have pv := Es _ (Ep (n := vs.length) (lS kis) (by walk_at "om"))
   refine Ei (lt := cb kis) (n := vs.length) (Ok := fun s' => s' = { s with heap := g2 }) (fun i j C s' hi hj e q => ?_) (fun p s' e q => ⟨e, ?_⟩) _ _ rfl pv
   ·subst e
    obtain ⟨p1, o1, i1, m1, a1, b1, _, c1, d1, _⟩ := eQ i hi
    obtain ⟨p2, o2, i2, m2, a2, b2, _, c2, d2, _⟩ := eQ j hj
    show wpAny _ _ (keyLt' (tuples' true) (vs.getD i Value.none) (vs.getD j Value.none)) C _ _
    rw [List.getD_eq_getElem?_getD, List.getD_eq_getElem?_getD, a1, a2]
    have z1 := d1.length
    have z2 := d2.length
    exact PySem.W.kat_lt b1 c1 b2 c2 (by simpa using Lw (b := true) (i := 0) d1 d2 (by simp [z1, z2]) (q _ rfl))
   ·rw [q]; unfold bT; rw [if_neg (by walk_at "om")]
  refine wpAny_bind (wpAny_mono (PySem.W.kat_run (κ := tuples' true) (ks := vs) (vs := vs) (Q := fun st s' => s' = { s with heap := g2 } /\ arrOf st = (bT (cb kis) vs.length).map (PySem.W.kas_item (vs.toArray.zip vs.toArray)) /\ failedOf st = none)
   rfl EE cO (fun p st s' b1 b2 b3 b4 => ⟨b4.1, by rw [b2, b4.2], b3⟩) ask) ?_ fun _ _ z => z)
  rintro ⟨⟨⟩, st⟩ s' ⟨rfl, har, hf⟩
  dsimp only
  rw [PySem.W.kat_snds rfl har]
  refine wpAny_bind (seqEpoch_at mh rfl (wpAny_bind (listUpdate_at mh rfl ?_ (Nat.zero_le _) sz)))
  rw [hf]
  simp only [bne_self_eq_false, Bool.false_eq_true, if_false]
  exact wpAny_pure done
theorem yL {r : Addr} {vs : List Value} {kis : List (List Int)} {Q : Value -> Shared -> Prop} (hl : kis.length = vs.length) (cO : vs.length < 64) (hk : ∀ i, i < vs.length -> fQ s.heap vs kis i)
 (Mo : ∀ (A' : Around) (Q' : List Value -> Shared -> Prop) (E' : Value -> Shared -> Prop), A'.handled = A.handled -> (∀ h' tk, (∀ b o, s.heap.get? b = some o -> h'.get? b = some o) -> s.heap.objs.size <= h'.objs.size -> Q' vs { s with heap := h', toks := tk }) -> wpAny (model prog w) A' (collect (.ref r)) Q' E' s)
 (q : ∀ l h' tk, s.heap.objs.size <= l -> (∀ b o, s.heap.get? b = some o -> h'.get? b = some o) -> (∃ c, h'.get? l = some (seqObj "list" (List.toArray ((bT (cb kis) vs.length).toList.map fun i => vs.getD i Value.none)) c)) -> Q (.ref l) { s with heap := h', toks := tk }) :
 wpAny (model prog w) A (call (.builtin "sorted") [.ref r]) Q E s := by
 refine Calls.call_function_entry kind_sorted plain_sorted entry_sorted (args_sorted1 _) ?_
 unfold Builtin.«sorted»
 refine wpAny_bind (m := checkCount "sorted" 1 1 _) (wpAny_pure (wpAny_bind (Mo _ _ _ rfl fun h1 tk keep hsz => ?_)))
 refine wpAny_bind (wpAny_newList ?_ (by rw [sizeLine_eq]; walk_at "om"))
 have oL : (h1.push (seqObj "list" vs.toArray 0)).get? h1.objs.size = some (seqObj "list" vs.toArray 0) := Heap.get?_push_size _ rfl
 have qg : ∀ b o, s.heap.get? b = some o -> b ≠ h1.objs.size /\ (h1.push (seqObj "list" vs.toArray 0)).get? b = some o := fun b o e => by
  have := Heap.lt_size e
  exact ⟨by walk_at "om", Heap.get?_push_of_some _ (keep b o e)⟩
 show wpAny _ A.in1 (holding [.ref h1.objs.size] (call (.builtin "list.sort") [.ref h1.objs.size]) >>= _) _ _ { s with heap := h1.push (seqObj "list" vs.toArray 0), toks := tk }
 generalize h1.push (seqObj "list" vs.toArray 0) = h2 at oL qg ⊢
 generalize h1.objs.size = l at oL qg hsz ⊢
 refine wpAny_bind (wpAny_holding (wpAny_call_entry slot_list_sort ⟨_, oL, rfl⟩ entry_list_sort ?body (args_list_sort _)))
 case body =>
  refine Mm (s := { s with heap := h2, toks := tk }) oL hl cO (fun i hi => (hk i hi).keep fun b o e _ => (qg b o e).2) fun h' k c => ⟨_, rfl, wpAny_pure ⟨_, rfl, q l h' tk hsz (fun b o e => k b o (qg b o e).1 (qg b o e).2) c⟩⟩
theorem Fo {T : String} {r d : Addr} {n : Nat} {P : Nat -> Value -> Prop} {OK : Heap -> Prop} {Q : List Value -> Shared -> Prop} (K : PySem.W.KdlSrc prog w T r d n P OK) (hh : A.handled = none) (ag : OK s.heap) (hn : n <= sizeLine)
 (q : ∀ h' tk acc, (∀ b o, s.heap.get? b = some o -> h'.get? b = some o) -> s.heap.objs.size <= h'.objs.size -> ItemsOf P acc n -> Q acc.toList { s with heap := h', toks := tk }) : wpAny (model prog w) A (collect (.ref r)) Q E s := by
 have lt := K.there _ ag
 unfold collect
 refine wpAny_bind (wpAny_runValue (codeAny_builtin entry_proto_collect' ?_))
 rw [Around.under_plainId PySem.F.plain_proto_collect _]
 show wpAny _ A.in1 (newList [] >>= fun l => again (.builtin "list.__iadd__" ⟨[l, .ref r], []⟩)) _ _ s
 refine wpAny_bind (wpAny_newObj_type (wpAny_pure ⟨Code.quiet_builtin _ (by decide +kernel), codeAny_builtin entry_list_iadd' ?_⟩))
 rw [Around.under_plainId PySem.F.plain_list_iadd _]
 have oS : (s.heap.push { cls := .type "list", data := .seq ([] : List Value).toArray }).get? s.heap.objs.size = some { cls := .type "list", data := .seq #[] 0 } := Heap.get?_push_size _ rfl
 show wpAny _ A.in1 (Builtin.List.listExtendWith (.ref s.heap.objs.size) (.ref r) (.ref s.heap.objs.size)) _ _ { s with heap := s.heap.push { cls := .type "list", data := .seq ([] : List Value).toArray } }
 refine PySem.W.kdl_extend (R := fun r s' => match r with
  | .ok (.ret v) => wpAny (model prog w) A (match v with | .ref a => (do match (<- load a).data with | .seq xs _ => pure xs.toList | _ => unsupported "internal:collect") | _ => unsupported "internal:collect") Q E s'
  | .ok _ => False
  | .error e => E e s') (s := { s with heap := s.heap.push { cls := .type "list", data := .seq ([] : List Value).toArray } }) K hh (K.keep _ _ ag fun b _ o e => Heap.get?_push_of_some _ e) s.heap.objs.size (Nat.ne_of_gt lt.1) (Nat.ne_of_gt lt.2) (.ref s.heap.objs.size) 0 oS (fun h' tk acc c hk hS qh => ?_) hn
 show wpAny _ A (load s.heap.objs.size >>= _) _ _ _
 refine wpAny_bind (wpAny_load hS (wpAny_pure ?_))
 exact q h' tk acc (fun b o e => hk b o (Nat.ne_of_lt (Heap.lt_size e)) (Heap.get?_push_of_some _ e)) (Nat.le_of_lt (Heap.lt_size hS)) qh
end
noncomputable def dQ (H : Hp) (xs : List V) (kvs : List (List Key × V)) : Prop := ak (fun x (kv : List Key × V) => ∃ a, x = .ref a /\ H a = some (.tup (kv.1.map kV))) xs kvs
theorem KT.Fp {H : Hp} {kvs : List (List Key × V)} {xs : List (List Key × Addr × Value)} (r : KT H kvs xs) : dQ H ((xs.map (·.2.1)).map V.ref) kvs := by
 induction r with
 | nil => exact trivial
 | cons h t ih => exact ⟨⟨_, rfl, h.2.1⟩, ih⟩
theorem dQ.Fq {K : PySem.W.Frag} {H : Hp} : ∀ {ys : List V} {kvs : List (List Key × V)} {kis : List (List Int)}, dQ H ys kvs -> kvs.map (·.1) = kis.map (fun k => k.map Sum.inl) -> (∀ k ∈ kis, k ≠ []) -> cy K H ys kis
 | [], [], [], _, _, _ => trivial
 | [], [], _ :: _, _, e, _ => by simp at e
 | _ :: _, kv :: kvs, [], _, e, _ => by simp at e
 | y :: ys, kv :: kvs, k :: kis, h, e, hn => by
  rw [List.map_cons, List.map_cons] at e
  injection e with e1 e2
  obtain ⟨⟨a, rfl, ha⟩, t⟩ := h
  refine ⟨⟨a, rfl, ?_, hn k (.head _)⟩, dQ.Fq t e2 fun k hk => hn k (.tail _ hk)⟩
  rw [e1, List.map_map] at ha
  exact .inl (.inl ha)
 | [], _ :: _, _, h, _, _ => h.elim
 | _ :: _, [], _, h, _, _ => h.elim
theorem t9 : ∀ (as : List Addr), Vals (as.map V.ref) (as.map Value.ref)
 | [] => .nil
 | _ :: as => .cons rfl (t9 as)
section
variable {X : Cx} {pins : List (Addr × Obj)} {σ : L2.St} {H : Hp} {s : Shared} {p : Addr} {kvs : List (List Key × V)}
theorem Fs (I : Inv X pins σ H s) (e : H p = some (.dT kvs)) : ∃ (as : List Addr) (es : Array DictEntry) (ep : Nat), dQ H (as.map V.ref) kvs /\ (p == sysModules) = false /\ dv s.heap p es ep /\ es.size = as.length /\ (∀ acc : Array Value, ItemsOf (fun i v => ∃ e, es[i]? = some e /\ v = e.key) acc es.size -> acc.toList = as.map Value.ref) /\ as.length <= sizeLine := by
 obtain ⟨z, hd, xs, rel, o, es, ep, ho, hc, hdt, he, his, hn⟩ := su I.ag e
 have hl : xs.length = kvs.length := (Paired.length rel).symm
 have hs : es.size = xs.length := size_of_entries he
 refine ⟨xs.map (·.2.1), es, ep, KT.Fp rel, hd, ⟨o, ho, hc, hdt⟩, by rw [List.length_map]; exact hs, fun acc ha => ?_, by rw [List.length_map, hl]; exact z⟩
 refine List.ext_getElem? fun i => ?_
 rw [List.getElem?_map, List.getElem?_map]
 have la : acc.toList.length = es.size := by rw [Array.length_toList]; exact ha.1
 by_cases hi : i < es.size
 ·obtain ⟨v, hv⟩ : ∃ v, acc.toList[i]? = some v := ⟨_, List.getElem?_eq_getElem (by omega)⟩
  obtain ⟨en, h1, h2⟩ := ha.2 i v (by rw [<- Array.getElem?_toList]; exact hv)
  rw [entry_at he i] at h1
  cases hx : xs[i]? with
  | none => rw [hx] at h1; cases h1
  | some y => rw [hx] at h1; cases h1; rw [hv, h2]; rfl
 ·rw [List.getElem?_eq_none (by omega), List.getElem?_eq_none (by omega)]; rfl
theorem yM (hc : X.calm = true) : eg X (.type "list") (fun xs H Q => ∃ p kvs, xs = [.ref p] /\ H p = some (.dT kvs) /\ ∀ l ys, H l = none -> dQ H ys kvs -> Q (.ref l) (upd H l (.lst ys))) := by
 intro pins s σ H xs us Q I r h
 obtain ⟨p, kvs, rfl, e, q⟩ := h
 obtain ⟨u, rfl, rx⟩ := vals1 r
 cases rx
 obtain ⟨as, es, ep, hk, lo, ra, hs, qh, hz⟩ := Fs I e
 refine PySem.W.kdl_call (Fm lo) (I.ok.hd hc) ra (by rw [hs]; exact hz) fun h' tk acc c keep hD ha => ?_
 have ea := qh acc ha
 exact ⟨.ref s.heap.objs.size, _, I.laid (t' := tk) keep (Nat.le_refl _) (show bb X.prog X.w _ h' _ (.lst (as.map V.ref)) from ⟨by rw [List.length_map]; exact hz, as.map Value.ref, c, t9 as, by rw [<- ea, Array.toArray_toList]; exact hD⟩), rfl, q _ _ (I.ag.fresh (Nat.le_refl _)) hk⟩
theorem yN (I : Inv X pins σ H s) {ks : List V} {kis : List (List Int)} {us : List Value} (h : cy X.K H ks kis) (r : Vals ks us) : ∀ i, i < us.length -> fQ s.heap us kis i := fun i hi => by
 have hk : i < ks.length := by rw [r.length]; exact hi
 have Mp : i < kis.length := by rw [<- h.len]; exact hk
 obtain ⟨p, ep, hp⟩ := h.get (List.getElem?_eq_getElem hk)
 obtain ⟨u, eu, ru⟩ := r.get (List.getElem?_eq_getElem hk)
 rw [ep] at ru
 cases ru
 obtain ⟨af, rv, ⟨o, ho, hc, m, hd⟩, _⟩ := I.tuple hp
 refine ⟨p, o, af, m, eu, ho, hc, hd, intsAre_of rv, fun z => ?_⟩
 have nn : kis.getD i [] ≠ [] := by
  have all : ∀ {ks : List V} {ns : List (List Int)}, cy X.K H ks ns -> ∀ n ∈ ns, n ≠ [] := by
   intro ks
   induction ks with
   | nil => intro ns h n hn; cases ns with
    | nil => simp at hn
    | cons _ _ => exact h.elim
   | cons k ks ih => intro ns h n hn; cases ns with
    | nil => exact h.elim
    | cons m ns =>
     obtain ⟨⟨_, _, _, dJ⟩, t⟩ := h
     rcases List.mem_cons.mp hn with z | z
     ·rw [z]; exact dJ
     ·exact ih t n z
  rw [List.getD_eq_getElem?_getD, List.getElem?_eq_getElem Mp]
  exact all h _ (List.getElem_mem _)
 have := rv.length
 rw [List.length_map, z] at this
 exact nn (List.length_eq_zero_iff.mp this)
theorem yO (I : Inv X pins σ H s) {ks : List V} {kis : List (List Int)} {us : List Value} {Q : VK} {l : Addr} {h' : Heap} {tk : Nat} (r : Vals ks us) (hz : ks.length <= sizeLine) (hl : s.heap.objs.size <= l) (keep : ∀ b o, s.heap.get? b = some o -> h'.get? b = some o)
 (hD : ∃ c, h'.get? l = some (seqObj "list" (List.toArray ((bT (cb kis) us.length).toList.map fun i => us.getD i Value.none)) c)) (q : ∀ l, H l = none -> Q (.ref l) (upd H l (.lst (bJ kis .non ks)))) : EP X pins σ Q (.ref l) { s with heap := h', toks := tk } := by
 obtain ⟨c, hD⟩ := hD
 have sv := Lx (kis := kis) r
 rw [r.length] at sv
 exact ⟨.ref l, _, I.laid (t' := tk) keep hl (show bb X.prog X.w _ h' _ (.lst (bJ kis .non ks)) from ⟨by rw [EG]; exact hz, _, c, sv, hD⟩), rfl, q l (I.ag.fresh hl)⟩
theorem Ft : eg X (.builtin "sorted") (fun xs H Q => ∃ (a : Addr) (ks : List V) (kis : List (List Int)), xs = [.ref a] /\ ai X.K H a ks /\ cy X.K H ks kis /\ ks.length < 64 /\ ∀ l, H l = none -> Q (.ref l) (upd H l (.lst (bJ kis .non ks)))) := by
 intro pins s σ H xs us Q I r h
 obtain ⟨a, ks, kis, rfl, hS, hK, cO, q⟩ := h
 obtain ⟨u, rfl, ru⟩ := vals1 r
 cases ru
 obtain ⟨af, rv, hp, hz⟩ := I.list hS
 have hl : af.length = ks.length := rv.length.symm
 refine yL (kis := kis) (by rw [<- hK.len, hl]) (by omega) (yN I hK rv) (fun A' Q' E' _ hq => collect_list hp.isList (hq _ s.toks (fun b o e => ?_) ?_) (by rw [hl]; exact hz)) fun l h' tk h1 h2 h3 => yO I rv hz h1 h2 h3 q
 ·have := Heap.lt_size e
  exact (Heap.get?_update_other _ _ (by walk_at "om")).trans (Heap.get?_push_of_some _ e)
 ·rw [Heap.size_update, size_push']; exact Nat.le_succ _
theorem Mq (hc : X.calm = true) : eg X (.builtin "sorted") (fun xs H Q => ∃ (p : Addr) (kvs : List (List Key × V)) (kis : List (List Int)), xs = [.ref p] /\ H p = some (.dT kvs) /\ kvs.map (·.1) = kis.map (fun k => k.map Sum.inl) /\ (∀ k ∈ kis, k ≠ []) /\ kvs.length < 64 /\
 ∀ l ys, H l = none -> dQ H ys kvs -> Q (.ref l) (upd H l (.lst (bJ kis .non ys)))) := by
 intro pins s σ H xs us Q I r h
 obtain ⟨p, kvs, kis, rfl, e, ek, dJ, cO, q⟩ := h
 obtain ⟨u, rfl, rx⟩ := vals1 r
 cases rx
 obtain ⟨as, es, ep, hk, lo, ra, hs, qh, hz⟩ := Fs I e
 have la : as.length = kvs.length := by have := hk.len; rwa [List.length_map] at this
 have lk : kis.length = kvs.length := by have := congrArg List.length ek; simpa using this.symm
 have hK : cy X.K H (as.map V.ref) kis := hk.Fq ek dJ
 have rv := t9 as
 refine yL (kis := kis) (vs := as.map Value.ref) (by rw [List.length_map]; omega) (by rw [List.length_map]; omega) (yN I hK rv) (fun A' Q' E' hA hq => Fo (Fm lo) (hA.trans (I.ok.hd hc)) ra (by rw [hs]; exact hz) fun h' tk acc k1 k2 ha => ?_) fun l h' tk h1 h2 h3 => yO I rv (by rw [List.length_map]; exact hz) h1 h2 h3 fun l hl => q l _ hl hk
 rw [qh acc ha]
 exact hq h' tk k1 k2
end
theorem Mr {P : Program} {w : World} {H' : Hp} {h' : Heap} {a : Addr} {kvs : List (List Key × V)} {xs : List (List Key × Addr × Value)} (z : kvs.length <= sizeLine) (lo : (a == sysModules) = false) (rel : KT H' kvs xs) (dd : h'.DictOfH (tupleKind (cS P w)) a xs) : bb P w H' h' a (.dT kvs) := by
 obtain ⟨o, es, ep, h1, h2, h3, h4, _, h5⟩ := dd
 exact ⟨z, lo, xs, rel, o, es, ep, h1, h2, h3, h4, h5⟩
section
variable {X : Cx} {pins : List (Addr × Obj)} {σ : L2.St} {H : Hp} {s : Shared} {p b : Addr} {kvs : List (List Key × V)} {k : List Key} {A : Around} {E : Value -> Shared -> Prop}
theorem Ms {ob : HO} {xs : List (List Key × Addr × Value)} (e : H p = some (.dT kvs)) {mi : List (List Key × V)} (r : KT H mi xs) : KT (upd H p ob) mi xs :=
 KT.keeps r fun b ys z => by rw [ay (fun y => by rw [y, e] at z; cases z)]; exact z
theorem Mt {more : List Value} {Q : Value -> Shared -> Prop} (hu : A.units + 1 < cLine) (I : Inv X pins σ H s) (e : H p = some (.dT kvs)) (eb : H b = some (.tup (k.map kV))) (hm : more = [] ∨ ∃ x, more = [x])
 (h1 : ∀ v, aY kvs k = some v -> ∀ w' s', Inv X pins σ (upd H p (.dT (eE kvs k))) s' -> RelV v w' -> Q w' s') (h0 : aY kvs k = none -> ∃ x, more = [x] /\ ∀ s', Inv X pins σ H s' -> Q x s') :
 wpAny (model X.prog X.w) A (call (.builtin "dict.pop") (.ref p :: .ref b :: more)) Q E s := by
 obtain ⟨z, lo, xs, rel, dd⟩ := su I.ag e
 have hl : xs.length = kvs.length := (Paired.length rel).symm
 refine Mi (tupleKind_room_in1 hu) (lL I.ag eb) lo dd (by rw [hl]; exact z) hm (fun y hy h' tk jN hs => ?_) fun hn => ?_
 ·have rv := rel.val k
  rw [hy] at rv
  cases hv : aY kvs k with
  | none => rw [hv] at rv; exact (show False from rv).elim
  | some v =>
   rw [hv] at rv
   have he : ∃ q, h'.get? p = some q := let ⟨q, _, _, hq, _⟩ := jN; ⟨q, hq⟩
   exact h1 v hv _ _ (x5 (t' := tk) I (by rw [e]; exact True.intro) hs he (Mr (Nat.le_trans (KH kvs k) z) lo (Ms e (KT.out rel k)) jN)) rv
 ·have rv := rel.val k
  rw [hn] at rv
  cases hv : aY kvs k with
  | some v => rw [hv] at rv; exact (show False from rv).elim
  | none =>
   obtain ⟨x, ex, q⟩ := h0 hv
   exact ⟨x, ex, fun tk => q _ (I.tok tk)⟩
end
noncomputable def qi (td ty : TE) : TE := fun σ H Q => td σ H fun x H1 => ∃ a, x = .ref a /\ sy H1 a /\ ty σ H1 fun y H2 => ∃ b kvs k v, y = .ref b /\ H2 a = some (.dT kvs) /\ H2 b = some (.tup (k.map kV)) /\ aY kvs k = some v /\ Q v (upd H2 a (.dT (eE kvs k)))
noncomputable def ua (td ty tx : TE) : TE := fun σ H Q => td σ H fun x H1 => ∃ a, x = .ref a /\ sy H1 a /\ ty σ H1 fun y H2 => tx σ H2 fun z H3 => ∃ b kvs k, y = .ref b /\ H3 a = some (.dT kvs) /\ H3 b = some (.tup (k.map kV)) /\
 (∀ v, aY kvs k = some v -> Q v (upd H3 a (.dT (eE kvs k)))) /\ (aY kvs k = none -> Q z H3)
section
variable {X : Cx} {o e f : Expr} {td ty tx : TE} {apos bY : Pos}
theorem Fu (hu : X.A.units + 1 < cLine) (ho : PE X o td) (he : PE X e ty) (m : M1 X o "pop" apos e bY) : PE X (.Call (.Attribute o "pop" apos) [e] [] bY) (qi td ty) := by
 intro pins s σ H Q I h
 refine wpAny_Call_method m.base m.few m.line PySem.F.plainAttrs_dict PySem.F.slot_dict_pop PySem.F.type_dict_pop (aq (ho pins s σ H _ I h) fun u s1 ⟨x, H1, I1, rx, a, ex, d, q1⟩ => ?_)
 subst ex; obtain rfl : u = Value.ref a := rx
 obtain ⟨t1, t2, _⟩ := KU I1 d
 refine ⟨t1, t2, ?_⟩; rw [m.trees]
 refine Calls.callWith_builtin rfl (Calls.evalArgs_plain (Calls.spliced_cons (aq (he pins s1 σ H1 _ I1 q1) fun iv s2 ⟨y, H2, I2, ry, b, kvs, k, v, ey, ea, eb, l, q2⟩ => Calls.spliced_nil ?_)))
 subst ey; obtain rfl : iv = Value.ref b := ry
 exact Mt hu I2 ea eb (.inl rfl) (fun v' l' w' s3 I3 fh => ⟨v', _, I3, fh, by rw [l] at l'; cases l'; exact q2⟩) fun l' => by rw [l] at l'; cases l'
theorem Mu : eg X (.builtin "len") (fun xs H Q => ∃ p kvs, xs = [.ref p] /\ H p = some (.dT kvs) /\ Q (.int kvs.length) H) := by
 intro pins s σ H xs us Q I r h
 obtain ⟨p, kvs, rfl, e, q⟩ := h
 obtain ⟨u, rfl, rx⟩ := vals1 r
 cases rx
 obtain ⟨z, lo, xs, rel, o, es, ep, ho, hc, hdt, he, his, hn⟩ := su I.ag e
 have hs : es.size = kvs.length := (size_of_entries he).trans (Paired.length rel).symm
 have T : s.TypeIs (.ref p) "dict" := ⟨o, ho, hc.1⟩
 have g : MeetsIn X.prog X.w (Builtin.«dict.__len__» ⟨[.ref p], []⟩) (fun _ R s => s.heap.get? p = some o /\ R (.ok (.ret (.int kvs.length s.toks))) { s with toks := s.toks + 1 }) := .of_wp fun A R s ⟨ho, h⟩ => by
  show wpAny _ _ (dictSize p >>= _) _ _ s
  unfold dictSize
  refine wpAny_bind (wpAny_bind (wpAny_dictEntries ho hdt (wpAny_pure ?_))); show wpAny _ _ (Builtin.Dict.pendingCount p >>= _) _ _ s
  refine wpAny_bind (wpAny_pendingCount_other lo (wpAny_ret_mkInt ?_))
  rw [Nat.add_zero, hs]; exact h
 refine Calls.call_function_entry kind_len plain_len entry_len (args_len1 _) ?_
 unfold Builtin.«len»
 refine wpAny_bind (m := oneArg "len" _) (wpAny_pure (wpAny_bind (m := callSpecial? (.ref p) (Str.ofString "__len__")) (wpAny_callSpecial?_slot (name := Str.ofString "__len__") T PySem.F.slot_dict_len (call_meetsIn PySem.F.slot_dict_len T PySem.F.entry_dict_len (PySem.F.args_dict_len_1 _) g ⟨ho, ?_⟩))))
 show wpAny _ _ _ _ _ { s with toks := s.toks + 1 }
 refine wpAny_bind (wpAny_holding (wpAny_pure (wpAny_bind (wpAny_letGo ?_))))
 show wpAny _ _ (if ((kvs.length : Nat) : Int) < 0 then _ else _) _ _ _; rw [if_neg (by omega)]
 rw [sizeLine_eq] at z
 show wpAny _ _ (if ((kvs.length : Nat) : Int) ≥ 2 ^ 63 then _ else _) _ _ _; rw [if_neg (by omega)]
 exact wpAny_bind (wpAny_mkInt (wpAny_pure ⟨_, rfl, .int kvs.length, H, I.tok _, ⟨_, rfl⟩, q⟩))
end
section
variable {prog : Program} {w : World} {K : Type} [DecidableEq K] {knd : KeyKind prog w K} {A : Around} {E : Value -> Shared -> Prop} {s : Shared} {o d : Addr} {es : Array DictEntry} {ep : Nat}
end
end Gz
namespace Gz
open PySem PySem.Spec PyProof.Rows L2
local macro_rules | `(tactic| walk_at "om") => `(tactic| ((try simp only [PySem.Addr] at *); omega))
section
variable {prog : Program} {w : World} {A : Around} {E : Value -> Shared -> Prop} {s : Shared}
end
noncomputable abbrev KD (prog : Program) (w : World) := tupleKind (cS prog w)
noncomputable abbrev Row := Addr × List Key × Addr × Value
section
variable {prog : Program} {w : World} {A : Around} {E : Value -> Shared -> Prop} {s : Shared}
theorem Mv {h h' : Heap} {k : List Key} {a : Addr} (x : (KD prog w).is h k a) (e : ∀ o, h.get? a = some o -> h'.get? a = some o) : (KD prog w).is h' k a :=
 let ⟨o, af, n, h1, r⟩ := x; ⟨o, af, n, e o h1, r⟩
noncomputable def yP (prog : Program) (w : World) (h : Heap) (r : Row) : Prop := (∃ o m, h.get? r.1 = some o /\ o.cls = .type "tuple" /\ o.data = .seq #[.ref r.2.2.1, r.2.2.2] m) /\ (KD prog w).is h r.2.1 r.2.2.1
theorem yP.keep {h h' : Heap} {r : Row} (x : yP prog w h r) (e1 : ∀ o, h.get? r.1 = some o -> h'.get? r.1 = some o) (e2 : ∀ o, h.get? r.2.2.1 = some o -> h'.get? r.2.2.1 = some o) : yP prog w h' r :=
 let ⟨⟨o, m, a, b⟩, c⟩ := x; ⟨⟨o, m, e1 o a, b⟩, Mv c e2⟩
end
section
variable {X : Cx} {pins : List (Addr × Obj)} {σ : L2.St} {H : Hp} {s : Shared}
end
end Gz
namespace Gz
open PySem PySem.Spec PyProof.Rows L2
theorem bC {c : Prop} [Decidable c] {a b : Prop} (h : c -> a) (h' : ¬ c -> b) : if c then a else b := by
 by_cases z : c
 ·rw [if_pos z]; exact h z
 ·rw [if_neg z]; exact h' z
theorem D8 {P : Program} {w : World} {H : Hp} (h : Heap) (hb : sysModules < h.objs.size) : bb P w H (h.push { cls := .type "dict", data := .dict #[] }) h.objs.size (.dK []) :=
 ⟨Nat.zero_le _, beq_eq_false_iff_ne.mpr (Ne.symm (Nat.ne_of_lt hb)), [], .nil, Heap.DictOf.new h⟩
section
variable {X : Cx} {pos : Pos}
theorem Inv.Mw {pins : List (Addr × Obj)} {σ : L2.St} {H : Hp} {s : Shared} (I : Inv X pins σ H s) : sysModules < s.heap.objs.size := by
 have h : mainGlobals < s.heap.objs.size := (I.mod.glob.keeps I.bk).lt
 exact Nat.lt_trans (by decide) h
noncomputable def qj : TE := fun _ H Q => ∀ p, H p = none -> Q (.ref p) (upd H p (.dT []))
theorem yQ : PE X (.Dict [] [] pos) qj := fun pins s σ H Q I h => wpAny_Dict_empty
 ⟨.ref s.heap.objs.size, _, I.laid (a := s.heap.objs.size) (o := .dT []) (t' := s.toks) (fun _ _ z => Heap.get?_push_of_some _ z) (Nat.le_refl _)
  ⟨Nat.zero_le _, beq_eq_false_iff_ne.mpr (Ne.symm (Nat.ne_of_lt (Inv.Mw I))), [], .nil, _, #[], 0, Heap.get?_push_size _ rfl, ⟨rfl, rfl, rfl⟩, rfl, rfl, List.nodup_nil⟩, rfl, h _ (I.ag.fresh (Nat.le_refl _))⟩
theorem Fv {x : Str} {n : Int} (h : ∃ t, X.mg x = some (.int n t)) (hg : Gl X x) (hd : (x == ("__debug__" : Str)) = false := by decide) : PE X (.Name x pos) (tC (.int n)) := by
 obtain ⟨t, ht⟩ := h
 exact Jw (v := .int n) hg ht ⟨t, rfl⟩ hd
end
end Gz
namespace Gz
open PySem PySem.Spec PyProof.Rows L2
local macro_rules | `(tactic| walk_at "om") => `(tactic| ((try simp only [PySem.Addr] at *); omega))
section
variable {M : Model} {A : Around} {E : Value -> Shared -> Prop} {s : Shared} {B : Heap} {l outer : List Env} {env : Env} {L x C : Addr} {cls a0 mk : Value} {Q : Unit -> Shared -> Prop}
end
section
variable {P : Program} {w : World} {K : PySem.W.Frag} {mg : Str -> Option Value} {base : Heap} {N : List Str} {qual : Str} {scope : Scope} {f : Addr} {cd : Value} {A : Around} {outer : List Env} {s : Shared} {H : Hp} {E : XK}
end
section
variable {X : Cx} {pins : List (Addr × Obj)} {σ : L2.St} {H2 : Hp} {s2 : Shared} {x : Str} {px pos : Pos} {elt iter : Expr} {ifs : List Expr} {scope : Scope} {cl : List (Str × Addr)} {fr : List Nat} {ys : List Str} {tt : TT} {te : TE}
end
section
variable {X : Cx} {F : Value -> Shared -> Prop} {pins pn : List (Addr × Obj)} {σ : L2.St} {H : Hp} {s : Shared} {A' : Around}
end
end Gz
namespace Gz
open PySem PySem.Spec PyProof.Rows L2
noncomputable def lP (ks : List P2) (r : Int) (i : Nat) : Bool := decide ((ba ks i).1 <= r) && decide (r <= (ba ks (i + 1)).1)
end Gz
namespace Gz
open PySem PySem.Spec PyProof.Rows L2
local macro_rules | `(tactic| walk_at "om") => `(tactic| ((try simp only [PySem.Addr] at *); omega))
theorem Fw {X : Cx} {A : Around} {o i : Expr} {pos : Pos} {td ty : TE} (hu : A.units + 1 < cLine) (ho : PE X o td) (hi : PE X i ty) (hs : x6 i) (eA : X.A = A := by rfl) : PE X (.Subscript o i pos) (lN td ty) := by
 subst eA; exact jO hu ho hi hs
theorem Mx {X : Cx} {K : PySem.W.Frag} {e : Expr} {f : Str} {pos : Pos} {ta : TE} (he : PE X e ta) (hb : attributeBase e f X.env (eval e X.env) = eval e X.env) (eK : X.K = K := by rfl) : PE X (.Attribute e f pos) (lB K ta f) := by
 subst eK; exact fg he hb
noncomputable abbrev Tb := List (P2 × S2)
noncomputable def aH (i j : Int) : List Key := [.inl i, .inl j]
theorem qk {a b : P2} (h : aH a.1 a.2 = aH b.1 b.2) : a = b := by
 unfold aH at h
 injection h with h1 h2
 injection h2 with h2 _
 exact Prod.ext (Sum.inl.inj h1) (Sum.inl.inj h2)
noncomputable def cX (tb : Tb) (s : P2) : Option S2 := (tb.find? fun r => decide (r.1 = s)).map (·.2)
noncomputable def cu (tb : Tb) (s : P2) (w : S2) : Tb := if (tb.any fun r => decide (r.1 = s)) = true then tb.map (fun r => if r.1 = s then (r.1, w) else r) else tb ++ [(s, w)]
noncomputable def j9 (tb : Tb) (s : P2) : Tb := tb.filter fun r => decide (r.1 ≠ s)
noncomputable def aK (H : Hp) : List (List Key × V) -> Tb -> Prop
 | [], [] => True
 | kv :: kvs, r :: tb => (kv.1 = aH r.1.1 r.1.2 /\ aQ H kv.2 r.2.1 r.2.2) /\ aK H kvs tb
 | _, _ => False
section
variable {H H' : Hp} {kvs : List (List Key × V)} {tb : Tb}
theorem aK.len : ∀ {kvs : List (List Key × V)} {tb : Tb}, aK H kvs tb -> kvs.length = tb.length
 | [], [], _ => rfl
 | _ :: kvs, _ :: tb, h => congrArg (· + 1) (aK.len (kvs := kvs) (tb := tb) h.2)
 | [], _ :: _, h => h.elim
 | _ :: _, [], h => h.elim
theorem aK.imp (f : ∀ v a b, aQ H v a b -> aQ H' v a b) : ∀ {kvs : List (List Key × V)} {tb : Tb}, aK H kvs tb -> aK H' kvs tb
 | [], [], _ => trivial
 | _ :: kvs, _ :: tb, h => ⟨⟨h.1.1, f _ _ _ h.1.2⟩, aK.imp f (kvs := kvs) (tb := tb) h.2⟩
 | [], _ :: _, h => h.elim
 | _ :: _, [], h => h.elim
theorem aK.app : ∀ {kvs mi : List (List Key × V)} {tb bB : Tb}, aK H kvs tb -> aK H mi bB -> aK H (kvs ++ mi) (tb ++ bB)
 | [], _, [], _, _, h => h
 | _ :: kvs, mi, _ :: tb, bB, h, h' => ⟨h.1, aK.app (kvs := kvs) (tb := tb) h.2 h'⟩
 | [], _, _ :: _, _, h, _ => h.elim
 | _ :: _, _, [], _, h, _ => h.elim
theorem aK.keys : ∀ {kvs : List (List Key × V)} {tb : Tb}, aK H kvs tb -> kvs.map (·.1) = tb.map fun r => aH r.1.1 r.1.2
 | [], [], _ => rfl
 | kv :: kvs, r :: tb, h => by rw [List.map_cons, List.map_cons, h.1.1, aK.keys (kvs := kvs) (tb := tb) h.2]
 | [], _ :: _, h => h.elim
 | _ :: _, [], h => h.elim
theorem aK.any (s : P2) : ∀ {kvs : List (List Key × V)} {tb : Tb}, aK H kvs tb -> (kvs.any fun kv => decide (kv.1 = aH s.1 s.2)) = tb.any fun r => decide (r.1 = s)
 | [], [], _ => rfl
 | kv :: kvs, r :: tb, h => by
  rw [List.any_cons, List.any_cons, aK.any s (kvs := kvs) (tb := tb) h.2, h.1.1]
  congr 1
  by_cases e : r.1 = s
  ·rw [e, decide_eq_true rfl, decide_eq_true rfl]
  ·rw [decide_eq_false e, decide_eq_false fun z => e (qk z)]
 | [], _ :: _, h => h.elim
 | _ :: _, [], h => h.elim
theorem aK.val (s : P2) : ∀ {kvs : List (List Key × V)} {tb : Tb}, aK H kvs tb -> (cX tb s = none -> aY kvs (aH s.1 s.2) = none) /\ ∀ w, cX tb s = some w -> ∃ v, aY kvs (aH s.1 s.2) = some v /\ aQ H v w.1 w.2
 | [], [], _ => ⟨fun _ => rfl, fun w h => by cases h⟩
 | kv :: kvs, r :: tb, h => by
  have ih := aK.val s (kvs := kvs) (tb := tb) h.2
  by_cases e : r.1 = s
  ·have e1 : cX (r :: tb) s = some r.2 := by simp [cX, List.find?_cons, e]
   rw [e1, eF (h.1.1.trans (by rw [e]))]
   exact ⟨fun z => (by cases z), fun w z => (by cases z; exact ⟨_, rfl, h.1.2⟩)⟩
  ·have e1 : cX (r :: tb) s = cX tb s := by simp [cX, List.find?_cons, e]
   rw [e1, eG (fun z => e (qk (h.1.1.symm.trans z)))]
   exact ih
 | [], _ :: _, h => h.elim
 | _ :: _, [], h => h.elim
theorem aK.lJ {s : P2} {v : V} {w : S2} (hv : aQ H v w.1 w.2) : ∀ {kvs : List (List Key × V)} {tb : Tb}, aK H kvs tb -> aK H (kvs.map fun kv => if kv.1 = aH s.1 s.2 then (kv.1, v) else kv) (tb.map fun r => if r.1 = s then (r.1, w) else r)
 | [], [], _ => trivial
 | kv :: kvs, r :: tb, h => by
  rw [List.map_cons, List.map_cons]
  refine ⟨?_, aK.lJ hv (kvs := kvs) (tb := tb) h.2⟩
  by_cases e : r.1 = s
  ·rw [if_pos e, if_pos (h.1.1.trans (by rw [e]))]; exact ⟨h.1.1, hv⟩
  ·rw [if_neg e, if_neg (fun z => e (qk (h.1.1.symm.trans z)))]; exact h.1
 | [], _ :: _, h => h.elim
 | _ :: _, [], h => h.elim
theorem aK.put {s : P2} {v : V} {w : S2} (h : aK H kvs tb) (hv : aQ H v w.1 w.2) : aK H (putK kvs (aH s.1 s.2) v) (cu tb s w) := by
 unfold putK cu
 rw [h.any s]
 split
 ·exact h.lJ hv
 ·exact h.app ⟨⟨rfl, hv⟩, trivial⟩
theorem aK.drop {s : P2} : ∀ {kvs : List (List Key × V)} {tb : Tb}, aK H kvs tb -> aK H (eE kvs (aH s.1 s.2)) (j9 tb s)
 | [], [], _ => trivial
 | kv :: kvs, r :: tb, h => by
  have ih := aK.drop (s := s) (kvs := kvs) (tb := tb) h.2
  unfold eE j9 at *
  rw [List.filter_cons, List.filter_cons]
  by_cases e : r.1 = s
  ·have e2 : kv.1 = aH s.1 s.2 := h.1.1.trans (by rw [e])
   rw [if_neg (by simp [e2]), if_neg (by simp [e])]; exact ih
  ·have e2 : ¬ kv.1 = aH s.1 s.2 := fun z => e (qk (h.1.1.symm.trans z))
   rw [if_pos (by simp [e2]), if_pos (by simp [e])]; exact ⟨h.1, ih⟩
 | [], _ :: _, h => h.elim
 | _ :: _, [], h => h.elim
theorem aK.ql : ∀ {ys : List V} {kvs : List (List Key × V)} {tb : Tb}, aK H kvs tb -> dQ H ys kvs -> cc H ys (tb.map (·.1))
 | [], [], [], _, _ => trivial
 | y :: ys, kv :: kvs, r :: tb, h, ⟨⟨a, e, ha⟩, t⟩ => ⟨⟨a, e, by rw [h.1.1] at ha; exact ha⟩, aK.ql (ys := ys) (kvs := kvs) (tb := tb) h.2 t⟩
 | [], _ :: _, _, _, h => h.elim
 | _ :: _, [], _, _, h => h.elim
 | _, [], _ :: _, h, _ => h.elim
 | _, _ :: _, [], h, _ => h.elim
end
noncomputable def TabAt (H : Hp) (p : Addr) (tb : Tb) : Prop := ∃ kvs, H p = some (.dT kvs) /\ aK H kvs tb
noncomputable def Fr (H H' : Hp) : Prop := ∀ b o, (∀ kvs, o ≠ HO.dT kvs) -> H b = some o -> H' b = some o
noncomputable def cY (ps : List Addr) (H H' : Hp) : Prop := ∀ b o, b ∉ ps -> H b = some o -> H' b = some o
noncomputable def Fx (H : Hp) (ps : List Addr) : Prop := ∀ p ∈ ps, ∃ kvs, H p = some (.dT kvs)
section
variable {H H' H2 : Hp} {ps qs : List Addr} {p q : Addr} {tb : Tb}
theorem Fr.trans (a : Fr H H') (b : Fr H' H2) : Fr H H2 := fun c o h e => b c o h (a c o h e)
theorem _root_.L2.aj.fr (s : aj H H') : Fr H H' := fun b o _ e => s b o e
theorem cY.trans (a : cY ps H H') (b : cY ps H' H2) : cY ps H H2 := fun c o h e => b c o h (a c o h e)
theorem SameBut.but (a : SameBut p H H') (h : p ∈ ps) : cY ps H H' := fun c o z e => a c o (fun y => z (y ▸ h)) e
theorem cY.fr (a : cY ps H H') (d : Fx H ps) : Fr H H' := fun b o ho e => by
 by_cases hb : b ∈ ps
 ·obtain ⟨kvs, hk⟩ := d b hb
  rw [hk] at e
  exact absurd (Option.some.inj e).symm (ho kvs)
 ·exact a b o hb e
theorem yR {kvs : List (List Key × V)} {o : HO} (h : H p = some (.dT kvs)) : Fr H (upd H p o) := fun b u hu e => by
 rw [ay (fun z => by rw [z, h] at e; exact hu _ (Option.some.inj e).symm)]; exact e
theorem My {kvs : List (List Key × V)} (h : H p = some (.dT kvs)) : Fx H [p] := fun b hb => ⟨kvs, (List.mem_singleton.mp hb) ▸ h⟩
theorem SameBut.fr {kvs : List (List Key × V)} (a : SameBut p H H') (h : H p = some (.dT kvs)) : Fr H H' := cY.fr (SameBut.but a (.head _)) (My h)
theorem cY.new (s : aj H H') (a : cY ps H' H2) (h : ∀ b ∈ ps, b ∉ qs -> H b = none) : cY qs H H2 := fun b o hb e => by
 by_cases hp : b ∈ ps
 ·have := h b hp hb; rw [this] at e; cases e
 ·exact a b o hp (s b o e)
theorem aQ.fr {v : V} {a b : En} (h : aQ H v a b) (f : Fr H H') : aQ H' v a b := let ⟨p, e, hp⟩ := h; ⟨p, e, f _ _ (fun _ z => nomatch z) hp⟩
theorem aW.fr {v : V} {a : P2} (h : aW H v a) (f : Fr H H') : aW H' v a := let ⟨p, e, hp⟩ := h; ⟨p, e, f _ _ (fun _ z => nomatch z) hp⟩
theorem TabAt.fr (h : TabAt H p tb) (f : Fr H H') (e : ∀ kvs, H p = some (.dT kvs) -> H' p = some (.dT kvs)) : TabAt H' p tb := let ⟨kvs, a, b⟩ := h; ⟨kvs, e _ a, b.imp fun _ _ _ z => z.fr f⟩
theorem TabAt.same (h : TabAt H p tb) (s : aj H H') : TabAt H' p tb := h.fr s.fr fun _ e => s _ _ e
theorem TabAt.Fy (h : TabAt H p tb) : ∃ kvs, H p = some (.dT kvs) := let ⟨kvs, a, _⟩ := h; ⟨kvs, a⟩
theorem TabAt.ne (h : TabAt H p tb) (hq : H q = none) : p ≠ q := fun z => by obtain ⟨kvs, a, _⟩ := h; rw [z, hq] at a; cases a
end
theorem ml {tb : Tb} {r : P2 × S2} (hn : (tb.map (·.1)).Nodup) (h : r ∈ tb) : cX tb r.1 = some r.2 := by
 induction tb with
 | nil => cases h
 | cons x l ih =>
  rw [List.map_cons, List.nodup_cons] at hn
  rcases List.mem_cons.mp h with z | z
  ·rw [<- z]; simp [cX, List.find?_cons]
  ·have e : ¬ x.1 = r.1 := fun y => hn.1 (y ▸ List.mem_map.mpr ⟨r, z, rfl⟩)
   have : cX (x :: l) r.1 = cX l r.1 := by simp [cX, List.find?_cons, e]
   rw [this, ih hn.2 z]
theorem Mz {tb : Tb} {s : P2} {w : S2} (h : cX tb s = some w) : (s, w) ∈ tb := by
 unfold cX at h
 obtain ⟨r, h1, h2⟩ := Option.map_eq_some_iff.mp h
 have := List.mem_of_find?_eq_some h1
 have e := List.find?_some h1
 have e : r.1 = s := by simpa using e
 rw [<- h2, <- e]; exact this
noncomputable def kc (e t : Int) (s : P2) : Prop := (0 <= s.1 /\ s.1 < e) /\ 0 <= s.2 /\ s.2 < t
instance (e t : Int) (s : P2) : Decidable (kc e t s) := by unfold kc; infer_instance
noncomputable def bR (e t : Int) (tb : Tb) : Prop := (tb.map (·.1)).Nodup /\ ∀ r ∈ tb, kc e t r.1
theorem Fz (tb : Tb) (s : P2) (w : S2) : (cu tb s w).length <= tb.length + 1 := by
 unfold cu; split <;> simp
theorem bR.put {e t : Int} {tb : Tb} {s : P2} {w : S2} (h : bR e t tb) (hs : kc e t s) : bR e t (cu tb s w) := by
 unfold cu
 split
 ·refine ⟨?_, fun r hr => ?_⟩
  ·have : (tb.map fun r => if r.1 = s then (r.1, w) else r).map (·.1) = tb.map (·.1) := by
    rw [List.map_map]
    refine List.map_congr_left fun r _ => ?_
    show (if r.1 = s then (r.1, w) else r).1 = r.1
    split <;> rfl
   rw [this]; exact h.1
  ·obtain ⟨x, hx, rfl⟩ := List.mem_map.mp hr
   have := h.2 x hx
   split <;> exact this
 ·rename_i z
  refine ⟨?_, fun r hr => ?_⟩
  ·rw [List.map_append]
   refine D9 h.1 fun y => z ?_
   obtain ⟨x, hx, e⟩ := List.mem_map.mp y
   rw [List.any_eq_true]
   exact ⟨x, hx, by simpa using e⟩
  ·rcases List.mem_append.mp hr with y | y
   ·exact h.2 r y
   ·rw [List.mem_singleton.mp y]; exact hs
theorem bR.drop {e t : Int} {tb : Tb} {s : P2} (h : bR e t tb) : bR e t (j9 tb s) :=
 ⟨h.1.sublist ((List.filter_sublist).map _), fun r hr => h.2 r (List.mem_filter.mp hr).1⟩
theorem bR.nil {e t : Int} : bR e t [] := ⟨List.nodup_nil, fun r h => by cases h⟩
noncomputable def dR (tb : Tb) : List (List Int) := tb.map fun r => [r.1.1, r.1.2]
noncomputable def gI (tb : Tb) : Tb := bJ (dR tb) ((0, 0), (none, none)) tb
theorem qm {tb : Tb} {r : P2 × S2} (h : r ∈ gI tb) : r ∈ tb := pQ.mem_iff.mp h
theorem uc {tb : Tb} : (gI tb).length = tb.length := EG
theorem ak.sort {α : Type} {R : V -> α -> Prop} {xs : List V} {as : List α} {d : α} {kis : List (List Int)} (h : ak R xs as) : ak R (bJ kis .non xs) (bJ kis d as) := by
 have hl := h.len
 have hp := (pN (n := xs.length) (lS kis)).1
 unfold bJ
 rw [<- hl]
 have gen : ∀ l : List Nat, (∀ i ∈ l, i < xs.length) -> ak R (l.map fun i => xs.getD i .non) (l.map fun i => as.getD i d) := by
  intro l
  induction l with
  | nil => intro _; exact trivial
  | cons i l ih =>
   intro q
   have hi := q i (.head _)
   obtain ⟨s, es, hs⟩ := h.get (List.getElem?_eq_getElem hi)
   refine ⟨?_, ih fun j hj => q j (.tail _ hj)⟩
   show R (xs.getD i .non) (as.getD i d)
   rw [List.getD_eq_getElem?_getD, List.getD_eq_getElem?_getD, es, List.getElem?_eq_getElem hi]
   exact hs
 exact gen _ fun i hi => by simpa using hp.mem_iff.mp hi
theorem ak.bind {α β : Type} {R : V -> α -> Prop} {f : β -> α} : ∀ {xs : List V} {bs : List β}, ak R xs (bs.map f) -> ak (fun x b => R x (f b)) xs bs
 | [], [], _ => trivial
 | _ :: _, _ :: _, h => ⟨h.1, ak.bind h.2⟩
 | [], _ :: _, h => h.elim
 | _ :: _, [], h => h.elim
theorem MA {H : Hp} {kvs : List (List Key × V)} {tb : Tb} (h : aK H kvs tb) : kvs.map (·.1) = (dR tb).map fun k => k.map Sum.inl := by
 rw [h.keys]; unfold dR; rw [List.map_map]; rfl
theorem MB {tb : Tb} : ∀ k ∈ dR tb, k ≠ [] := fun k hk => by
 obtain ⟨r, _, rfl⟩ := List.mem_map.mp hk
 exact fun z => nomatch z
theorem FA {H : Hp} {kvs : List (List Key × V)} {ys : List V} {tb : Tb} (h : aK H kvs tb) (hk : dQ H ys kvs) : ak (fun x (r : P2 × S2) => aW H x r.1) (bJ (dR tb) .non ys) (gI tb) := ak.sort (ak.bind (h.ql hk))
theorem FC {K : PySem.W.Frag} {H : Hp} : ∀ {ys : List V} {tb : Tb}, ak (fun x (r : P2 × S2) => aW H x r.1) ys tb -> cy K H ys (dR tb)
 | [], [], _ => trivial
 | y :: ys, r :: tb, ⟨⟨a, e, ha⟩, t⟩ => ⟨⟨a, e, .inl (.inl ha), fun z => nomatch z⟩, FC (ys := ys) (tb := tb) t⟩
 | [], _ :: _, h => h.elim
 | _ :: _, [], h => h.elim
noncomputable def cP (H : Hp) (v : V) (r : P2 × S2) : Prop := ∃ a w, v = .ref a /\ H a = some (.tup [.int r.1.1, .int r.1.2, w]) /\ aQ H w r.2.1 r.2.2
theorem cP.same {H H' : Hp} {v : V} {r : P2 × S2} (h : cP H v r) (s : aj H H') : cP H' v r := let ⟨a, w, e, ha, hw⟩ := h; ⟨a, w, e, s _ _ ha, hw.same s⟩
theorem cP.fr {H H' : Hp} {v : V} {r : P2 × S2} (h : cP H v r) (s : Fr H H') : cP H' v r := let ⟨a, w, e, ha, hw⟩ := h; ⟨a, w, e, s _ _ (fun _ z => nomatch z) ha, hw.fr s⟩
noncomputable def FD (r : P2 × S2) : PyData := .tuple [.int r.1.1, .int r.1.2, yD r.2]
theorem yS {K : PySem.W.Frag} {H : Hp} : ∀ {xs : List V} {tb : Tb}, ak (cP H) xs tb -> eN K H xs (tb.map FD)
 | [], [], _ => .nil
 | x :: xs, r :: tb, ⟨⟨a, w, e, ha, hw⟩, t⟩ => by
  subst e
  exact .cons (.tup (ar.of ha) (.cons (.int _) (.cons (.int _) (.cons (aQ.dat hw) .nil)))) (yS t)
 | [], _ :: _, h => h.elim
 | _ :: _, [], h => h.elim
end Gz
namespace Gz
open PySem PySem.Spec PyProof.Rows L2
theorem MC {a b c d : En} (h : bg a b = true) : bg (gF a c) (gG b d) = true := by
 rcases a with _ | x <;> rcases b with _ | y <;> rcases c with _ | z <;> rcases d with _ | w <;> simp [bg, gF, gG] at h ⊢ <;> omega
noncomputable def bF (e : S2) (ss : List S2) : S2 := ss.foldl (fun e s => (gF e.1 s.1, gG e.2 s.2)) e
theorem MD (e s : S2) (ss : List S2) : bF e (s :: ss) = bF (gF e.1 s.1, gG e.2 s.2) ss := rfl
theorem FE : ∀ (ss : List S2) {e : S2}, bg e.1 e.2 = true -> bg (bF e ss).1 (bF e ss).2 = true
 | [], _, h => h
 | s :: ss, e, h => by
  rw [MD]
  exact FE ss (MC h)
theorem ME {ss : List S2} {e : S2} {i : Nat} (h : bg (bF e (ss.take i)).1 (bF e (ss.take i)).2 = true) : bg (bF e ss).1 (bF e ss).2 = true := by
 have : bF e ss = bF (bF e (ss.take i)) (ss.drop i) := by
  unfold bF
  rw [<- List.foldl_append, List.take_append_drop]
 rw [this]
 exact FE _ h
theorem MF {ss : List S2} {e s : S2} {i : Nat} (h : ss[i]? = some s) : bF e (ss.take (i + 1)) = (gF (bF e (ss.take i)).1 s.1, gG (bF e (ss.take i)).2 s.2) := by
 unfold bF
 rw [List.take_succ, h, List.foldl_append]
 rfl
noncomputable def kd (e : S2) (ss : List S2) : W2 := if bg (bF e ss).1 (bF e ss).2 = true then none else some (bF e ss)
theorem mq {H : Hp} : ∀ {xs : List V} {ss : List S2}, dO H xs ss ↔ ak (fun x s => aQ H x s.1 s.2) xs ss
 | [], [] => Iff.rfl
 | _ :: _, _ :: _ => and_congr Iff.rfl mq
 | [], _ :: _ => Iff.rfl
 | _ :: _, [] => Iff.rfl
noncomputable abbrev Pa := Str × Int × S2
noncomputable def iE (H : Hp) (v : V) (p : Pa) : Prop := ∃ (t q : Addr), v = .ref t /\ H t = some (.tup [.str p.1, .int p.2.1, .ref q]) /\ H q = some (.tup [ev p.2.2.1, ev p.2.2.2])
theorem iE.same {H H' : Hp} {v : V} {p : Pa} (h : iE H v p) (s : aj H H') : iE H' v p := let ⟨t, q, e, a, b⟩ := h; ⟨t, q, e, s _ _ a, s _ _ b⟩
noncomputable abbrev mr (H : Hp) : List V -> List Pa -> Prop := ak (iE H)
theorem mr.same {H H' : Hp} {xs : List V} {ps : List Pa} (h : mr H xs ps) (s : aj H H') : mr H' xs ps := ak.imp (fun _ _ r => r.same s) h
theorem iE.fr {H : Hp} {v : V} {p : Pa} {r : Addr} {ys : List V} {o : HO} (h : iE H v p) (hr : H r = some (.lst ys)) : iE (upd H r o) v p := by
 obtain ⟨t, q, e, a, b⟩ := h
 have h1 : t ≠ r := fun z => by rw [z, hr] at a; cases a
 have h2 : q ≠ r := fun z => by rw [z, hr] at b; cases b
 exact ⟨t, q, e, by rw [ay h1]; exact a, by rw [ay h2]; exact b⟩
noncomputable def yT (k : Str) (t : Int) (p : Pa) : Bool := decide (p.1 = k) && decide (p.2.1 = t)
noncomputable def sel (ps : List Pa) (k : Str) (t : Int) : List S2 := (ps.filter (yT k t)).map (·.2.2)
noncomputable def hasB (n : Int) (k : Str) (t : Int) : Bool := if k = "step" then decide (0 <= t /\ t < n) && decide (0 <= t + 1 /\ t + 1 < n) else decide (k = "at") && decide (0 <= t /\ t < n)
noncomputable def qo (n : Int) (ps : List Pa) : Prop := ∀ p ∈ ps, hasB n p.1 p.2.1 = true
theorem int_at {cs : List Int} {t : Int} (h0 : 0 <= t) (h1 : t < (cs.length : Int)) : cV (cs.map V.int) t = some (.int (cs.getD t.toNat 0)) := by
 have e : t = ((t.toNat : Nat) : Int) := by omega
 refine (congrArg (cV _) e).trans (gA ?_)
 rw [List.getElem?_map, List.getD_eq_getElem?_getD, List.getElem?_eq_getElem (by omega)]
 rfl
structure Gd (n : Nat) (d : PyData) : Prop where
 eqv : PyData.eqv d d = true
 lay : d.canLay0 = true
 dep : d.depth <= n
theorem Gd.up {n m : Nat} {d : PyData} (h : Gd n d) (hm : n <= m) : Gd m d := ⟨h.eqv, h.lay, Nat.le_trans h.dep hm⟩
theorem Gd.of {n : Nat} {d : PyData} (h : eO n d = true) : Gd n d := let ⟨a, b, c⟩ := E2 d h; ⟨a, b, c⟩
theorem Gd.int (i : Int) : Gd 0 (.int i) := .of rfl
theorem Gd.all : ∀ {ds : List PyData} {n : Nat}, (∀ d ∈ ds, Gd n d) -> PyData.eqvAll ds ds = true /\ PyData.canLayAll0 ds = true /\ PyData.depthAll ds <= n
 | [], n, _ => ⟨rfl, rfl, Nat.zero_le _⟩
 | d :: ds, n, h => by
  obtain ⟨a, b, c⟩ := h d (.head _)
  obtain ⟨a', b', c'⟩ := Gd.all (ds := ds) fun x hx => h x (.tail _ hx)
  exact ⟨by simp only [PyData.eqvAll, a, a', Bool.and_self], by simp only [PyData.canLayAll0, b, b', Bool.and_self], by simp only [PyData.depthAll]; omega⟩
theorem Gd.lst {ds : List PyData} {n : Nat} (h : ∀ d ∈ ds, Gd n d) : Gd (n + 1) (.list ds) := by
 obtain ⟨a, b, c⟩ := Gd.all h
 exact ⟨by simpa only [PyData.eqv] using a, by simpa only [PyData.canLay0] using b, by simp only [PyData.depth]; omega⟩
theorem Gd.tup {ds : List PyData} {n : Nat} (h : ∀ d ∈ ds, Gd n d) : Gd (n + 1) (.tuple ds) := by
 obtain ⟨a, b, c⟩ := Gd.all h
 exact ⟨by simpa only [PyData.eqv] using a, by simpa only [PyData.canLay0] using b, by simp only [PyData.depth]; omega⟩
theorem yU {K : PySem.W.Frag} {H : Hp} {x y : V} {d : PyData} {n : Nat} {neg : Bool} {Q : VK} (hx : Dat K H x d) (hy : Dat K H y d) (g : Gd n d) (hn : n <= 60) (q : Q (.bl (!neg)) H) : yB K neg x y H Q := by
 refine ⟨d, d, hx, hy, g.lay, g.lay, Nat.le_trans g.dep hn, ?_⟩
 rw [g.eqv]
 cases neg <;> exact q
theorem MG (s : S2) : Gd 1 (yD s) := .of (by
 obtain ⟨a, b⟩ := s
 cases a <;> cases b <;> rfl)
end Gz
namespace Gz
open PySem PySem.Spec PyProof.Rows L2
theorem yV {α β : Type} {R : V -> α -> Prop} {R' : V -> β -> Prop} {Ok : Hp -> Prop} {ρ : L2.St} {tt : TT} {te : TE} {p : α -> Bool} {f : α -> β} {Q' : List V -> Hp -> Prop} {H : Hp} (cp : Ok H) : ∀ {xs : List V} {as : List α} {ys : List V}, ak R xs as ->
 (∀ x a, R x a -> ∀ Q, Q (p a) H -> tt (some x :: ρ) H Q) -> (∀ x a, p a = true -> R x a -> ∀ Q : VK, (∀ y, R' y (f a) -> Q y H) -> te (some x :: ρ) H Q) -> (∀ zs, ak R' zs ((as.filter p).map f) -> Q' (ys ++ zs) H) -> dr Ok ρ tt te xs ys H Q'
 | [], [], ys, _, _, _, q => ⟨cp, by simpa using q [] trivial⟩
 | x :: xs, a :: as, ys, h, ht, he, q => by
  refine ⟨cp, ht x a h.1 _ ?_⟩
  by_cases hb : p a = true
  ·rw [if_pos hb]
   refine he x a hb h.1 _ fun y ry => yV cp h.2 ht he fun zs hz => ?_
   have := q (y :: zs) (by rw [List.filter_cons, if_pos hb]; exact ⟨ry, hz⟩)
   simpa using this
  ·rw [if_neg hb]
   refine yV cp h.2 ht he fun zs hz => q zs ?_
   rw [List.filter_cons, if_neg hb]
   exact hz
 | [], _ :: _, _, h, _, _, _ => h.elim
 | _ :: _, [], _, h, _, _, _ => h.elim
end Gz
namespace Gz
open PySem PySem.Spec PyProof.Rows L2
theorem MH {K : PySem.W.Frag} {i j k : Nat} {p : Addr} {x y z : V} {σ : L2.St} {H : Hp} {Q : L2.St -> Hp -> Prop} (h : ar K H p [x, y, z]) (q : Q (((σ.set i (some x)).set j (some y)).set k (some z)) H) : gk K 3 (b8 (bG i) (b8 (bG j) (b8 (bG k) gh))) (.ref p) σ H Q :=
 ⟨p, _, rfl, h, rfl, _, _, rfl, _, _, rfl, _, _, rfl, rfl, q⟩
end Gz
namespace Gz
open PySem PySem.Spec PyProof.Rows L2
end Gz
namespace Gz
open PySem L2
end Gz
namespace Gz
open PySem L2
noncomputable def qp (s : S2) (x : Int) : Prop := (∀ a, s.1 = some a -> a <= x) /\ ∀ b, s.2 = some b -> x <= b
noncomputable abbrev Mk := Nat × S2
structure ke (ps : List P2) (ms : List Mk) (tp : Nat -> Option P2) : Prop where
 val : ∀ t v k, t <= ps.length -> tp t = some (v, k) -> ∃ (i : Nat) (m : Mk) (h : Int), k = (i : Int) /\ ms[i]? = some m /\ m.2.2 = some h /\ h + cC ps m.1 t <= v
 top : ∀ m ∈ ms, ∀ h, m.2.2 = some h -> ∃ v k, tp m.1 = some (v, k) /\ v <= h
 fwd : ∀ t v k, t < ps.length -> tp t = some (v, k) -> ∃ v' k', tp (t + 1) = some (v', k') /\ v' <= v + (ba ps t).2
 bwd : ∀ t v k, t < ps.length -> tp (t + 1) = some (v, k) -> ∃ v' k', tp t = some (v', k') /\ v' <= v - (ba ps t).1
noncomputable def ud (ms : List Mk) (tp : Nat -> Option P2) : Prop := ∀ m ∈ ms, ∀ l v k, m.2.1 = some l -> tp m.1 = some (v, k) -> l <= v
noncomputable def gJ (ps : List P2) (a b : Mk) : Prop := ∃ h l, a.2.2 = some h /\ b.2.1 = some l /\ h + cC ps a.1 b.1 < l
noncomputable def cZ (a b : P2) : Bool := decide (a.1 < b.1) || (decide (a.1 = b.1) && decide (a.2 < b.2))
noncomputable def c6 (a b : P2) : P2 := if cZ b a = true then b else a
noncomputable def fR : Option P2 -> Option P2 -> Option P2
 | none, b => b
 | some a, none => some a
 | some a, some b => some (c6 a b)
theorem yW (a b : P2) : (c6 a b = a ∨ c6 a b = b) /\ (c6 a b).1 <= a.1 /\ (c6 a b).1 <= b.1 := by
 unfold c6 cZ
 split
 ·rename_i h
  simp only [Bool.or_eq_true, Bool.and_eq_true, decide_eq_true_eq] at h
  exact ⟨.inr rfl, by omega, by omega⟩
 ·rename_i h
  simp only [Bool.or_eq_true, Bool.and_eq_true, decide_eq_true_eq, not_or, not_and] at h
  exact ⟨.inl rfl, by omega, by omega⟩
theorem FF (a b : Option P2) : fR a b = a ∨ fR a b = b := by
 rcases a with _ | a <;> rcases b with _ | b
 ·exact .inl rfl
 ·exact .inr rfl
 ·exact .inl rfl
 ·show some (c6 a b) = some a ∨ some (c6 a b) = some b
  rcases (yW a b).1 with h | h <;> rw [h]
  ·exact .inl rfl
  ·exact .inr rfl
noncomputable def cQ (a : Option P2) (v : Int) : Prop := ∃ w k, a = some (w, k) /\ w <= v
theorem MI {a b : Option P2} {v : Int} (h : cQ a v) : cQ (fR a b) v := by
 obtain ⟨w, k, rfl, hw⟩ := h
 rcases b with _ | b
 ·exact ⟨w, k, rfl, hw⟩
 ·have := (yW (w, k) b).2.1
  exact ⟨(c6 (w, k) b).1, (c6 (w, k) b).2, rfl, by dsimp only at this; omega⟩
theorem yX {a b : Option P2} {v : Int} (h : cQ b v) : cQ (fR a b) v := by
 obtain ⟨w, k, rfl, hw⟩ := h
 rcases a with _ | a
 ·exact ⟨w, k, rfl, hw⟩
 ·have := (yW a (w, k)).2.2
  exact ⟨(c6 a (w, k)).1, (c6 a (w, k)).2, rfl, by dsimp only at this; omega⟩
noncomputable def mw (a : Option P2) (MJ : Int) : Option P2 := a.map fun q => (q.1 + MJ, q.2)
theorem FG {a : Option P2} {v b : Int} (h : cQ a v) : cQ (mw a b) (v + b) := by
 obtain ⟨w, k, rfl, hw⟩ := h
 exact ⟨w + b, k, rfl, by omega⟩
noncomputable def dw (ps : List P2) (ms : List Mk) (t : Nat) (a : Option P2) : Prop := ∀ v k, a = some (v, k) -> ∃ (i : Nat) (m : Mk) (h : Int), k = (i : Int) /\ ms[i]? = some m /\ m.2.2 = some h /\ h + cC ps m.1 t <= v
theorem dw.yY {ps : List P2} {ms : List Mk} {t : Nat} {a b : Option P2} (ha : dw ps ms t a) (hb : dw ps ms t b) : dw ps ms t (fR a b) := by
 rcases FF a b with h | h <;> rw [h]
 ·exact ha
 ·exact hb
theorem MK (ps : List P2) (t : Nat) : cC ps t t = 0 := by unfold cC; rw [if_pos (Nat.le_refl _)]; omega
theorem ML {ps : List P2} {t : Nat} (h : t < ps.length) : cC ps t (t + 1) = (ba ps t).2 := by
 unfold cC
 rw [if_pos (Nat.le_succ _), j7 _ ps h]
 omega
theorem MM {ps : List P2} {t : Nat} (h : t < ps.length) : cC ps (t + 1) t = -(ba ps t).1 := by
 unfold cC
 rw [if_neg (by omega), j7 _ ps h]
 omega
theorem dw.lift {ps : List P2} {ms : List Mk} (hp : iB ps) (hm : ∀ m ∈ ms, m.1 <= ps.length) {t u : Nat} (ht : t <= ps.length) (hu : u <= ps.length) {a : Option P2} {b : Int} (hb : cC ps t u = b) (h : dw ps ms t a) : dw ps ms u (mw a b) := by
 intro v k e
 obtain ⟨⟨w, q⟩, ea, e⟩ := Option.map_eq_some_iff.mp e
 cases e
 obtain ⟨i, m, x, e1, e2, e3, hx⟩ := h w q ea
 refine ⟨i, m, x, e1, e2, e3, ?_⟩
 have := Md hp (hm m (List.mem_of_getElem? e2)) hu ht
 dsimp only
 omega
noncomputable def fS (tp : Nat -> Option P2) (i : Nat) (x : Option P2) : Nat -> Option P2 := fun t => if t = i then x else tp t
theorem kf {tp : Nat -> Option P2} {i : Nat} {x : Option P2} : fS tp i x i = x := if_pos rfl
theorem gK {tp : Nat -> Option P2} {i t : Nat} {x : Option P2} (h : t ≠ i) : fS tp i x t = tp t := if_neg h
theorem FH {ps : List P2} {ms : List Mk} {tp : Nat -> Option P2} {i : Nat} {x : Option P2} (h : ∀ t, t <= ps.length -> dw ps ms t (tp t)) (hx : dw ps ms i x) : ∀ t, t <= ps.length -> dw ps ms t (fS tp i x t) := fun t ht => by
 by_cases e : t = i
 ·subst e; rw [kf]; exact hx
 ·rw [gK e]; exact h t ht
theorem ue {tp : Nat -> Option P2} {i t : Nat} {b : Option P2} {v : Int} (h : cQ (tp t) v) : cQ (fS tp i (fR (tp i) b) t) v := by
 by_cases e : t = i
 ·subst e; rw [kf]; exact MI h
 ·rw [gK e]; exact h
structure T1 (ps : List P2) (ms : List Mk) (j : Nat) (tp : Nat -> Option P2) : Prop where
 val : ∀ t, t <= ps.length -> dw ps ms t (tp t)
 top : ∀ m ∈ ms.take j, ∀ h, m.2.2 = some h -> cQ (tp m.1) h
theorem T1.nil {ps : List P2} {ms : List Mk} : T1 ps ms 0 fun _ => none := ⟨fun _ _ _ _ e => (nomatch e), fun _ h => by simp at h⟩
theorem T1.skip {ps : List P2} {ms : List Mk} {j : Nat} {tp : Nat -> Option P2} {m : Mk} (T : T1 ps ms j tp) (hm : ms[j]? = some m) (hn : m.2.2 = none) : T1 ps ms (j + 1) tp := ⟨T.val, fun q hq h e => by
 rw [List.take_succ, hm] at hq
 rcases List.mem_append.mp hq with z | z
 ·exact T.top q z h e
 ·obtain rfl : q = m := by simpa using z
  rw [hn] at e; cases e⟩
theorem T1.put {ps : List P2} {ms : List Mk} {j : Nat} {tp : Nat -> Option P2} {m : Mk} {h : Int} (T : T1 ps ms j tp) (hm : ms[j]? = some m) (hh : m.2.2 = some h) : T1 ps ms (j + 1) (fS tp m.1 (fR (tp m.1) (some (h, (j : Int))))) := by
 have hv : dw ps ms m.1 (some (h, (j : Int))) := fun v k e => by
  cases e
  exact ⟨j, m, h, rfl, hm, hh, by rw [MK]; omega⟩
 refine ⟨fun t ht => ?_, fun q hq x e => ?_⟩
 ·by_cases e : t = m.1
  ·subst e; rw [kf]; exact (T.val _ ht).yY hv
  ·rw [gK e]; exact T.val t ht
 ·rw [List.take_succ, hm] at hq
  rcases List.mem_append.mp hq with z | z
  ·exact ue (T.top q z x e)
  ·obtain rfl : q = m := by simpa using z
   rw [hh] at e
   cases e
   rw [kf]
   exact yX ⟨h, j, rfl, Int.le_refl _⟩
structure T2 (ps : List P2) (ms : List Mk) (j : Nat) (tp : Nat -> Option P2) : Prop where
 val : ∀ t, t <= ps.length -> dw ps ms t (tp t)
 top : ∀ m ∈ ms, ∀ h, m.2.2 = some h -> cQ (tp m.1) h
 fwd : ∀ t, t < j -> ∀ v, cQ (tp t) v -> cQ (tp (t + 1)) (v + (ba ps t).2)
theorem T1.two {ps : List P2} {ms : List Mk} {tp : Nat -> Option P2} (T : T1 ps ms ms.length tp) : T2 ps ms 0 tp := ⟨T.val, fun m h => T.top m (by rw [List.take_length]; exact h), fun _ h => absurd h (Nat.not_lt_zero _)⟩
theorem T2.step {ps : List P2} {ms : List Mk} {j : Nat} {tp : Nat -> Option P2} (hp : iB ps) (hm : ∀ m ∈ ms, m.1 <= ps.length) (hj : j < ps.length) (T : T2 ps ms j tp) : T2 ps ms (j + 1) (fS tp (j + 1) (fR (tp (j + 1)) (mw (tp j) (ba ps j).2))) := by
 refine ⟨FH T.val ((T.val _ (by omega)).yY ((T.val j (by omega)).lift hp hm (by omega) (by omega) (ML hj))), fun m h x e => ue (T.top m h x e), fun t ht v hv => ?_⟩
 rw [gK (by omega)] at hv
 by_cases e : t = j
 ·subst e
  rw [kf]
  exact yX (FG hv)
 ·rw [gK (by omega)]
  exact T.fwd t (by omega) v hv
structure T3 (ps : List P2) (ms : List Mk) (j : Nat) (tp : Nat -> Option P2) : Prop where
 val : ∀ t, t <= ps.length -> dw ps ms t (tp t)
 top : ∀ m ∈ ms, ∀ h, m.2.2 = some h -> cQ (tp m.1) h
 fwd : ∀ t, t < ps.length -> ∀ v, cQ (tp t) v -> cQ (tp (t + 1)) (v + (ba ps t).2)
 bwd : ∀ t, j <= t -> t < ps.length -> ∀ v, cQ (tp (t + 1)) v -> cQ (tp t) (v - (ba ps t).1)
theorem T2.three {ps : List P2} {ms : List Mk} {tp : Nat -> Option P2} (T : T2 ps ms ps.length tp) : T3 ps ms ps.length tp := ⟨T.val, T.top, T.fwd, fun t h1 h2 => absurd h2 (by omega)⟩
theorem T3.step {ps : List P2} {ms : List Mk} {j : Nat} {tp : Nat -> Option P2} (hp : iB ps) (hm : ∀ m ∈ ms, m.1 <= ps.length) (hj : j < ps.length) (T : T3 ps ms (j + 1) tp) : T3 ps ms j (fS tp j (fR (tp j) (mw (tp (j + 1)) (-(ba ps j).1)))) := by
 have h1 := hp _ (E7 hj)
 refine ⟨FH T.val ((T.val _ (by omega)).yY ((T.val (j + 1) (by omega)).lift hp hm (by omega) (by omega) (MM hj))), fun m h x e => ue (T.top m h x e), fun t ht v hv => ?_, fun t h2 h3 v hv => ?_⟩
 ·by_cases e : t = j
  ·subst e
   rw [kf] at hv
   rw [gK (by omega)]
   rcases FF (tp t) (mw (tp (t + 1)) (-(ba ps t).1)) with z | z
   ·rw [z] at hv; exact T.fwd t ht v hv
   ·rw [z] at hv
    obtain ⟨w, k, e, hw⟩ := hv
    obtain ⟨⟨w', k'⟩, e1, e2⟩ := Option.map_eq_some_iff.mp e
    cases e2
    exact ⟨w', k', e1, by dsimp only at hw; omega⟩
  ·rw [gK e] at hv
   exact ue (T.fwd t ht v hv)
 ·rw [gK (by omega)] at hv
  by_cases e : t = j
  ·subst e
   rw [kf]
   refine yX ?_
   have := FG (b := -(ba ps t).1) hv
   rwa [show v + -(ba ps t).1 = v - (ba ps t).1 by omega] at this
  ·rw [gK e]
   exact T.bwd t (by omega) h3 v hv
theorem T3.tops {ps : List P2} {ms : List Mk} {tp : Nat -> Option P2} (T : T3 ps ms 0 tp) : ke ps ms tp :=
 ⟨fun t v k ht e => T.val t ht v k e, T.top, fun t v k ht e => T.fwd t ht v ⟨v, k, e, Int.le_refl _⟩, fun t v k ht e => T.bwd t (Nat.zero_le _) ht v ⟨v, k, e, Int.le_refl _⟩⟩
theorem ke.gJ {ps : List P2} {ms : List Mk} {tp : Nat -> Option P2} (T : ke ps ms tp) {b : Mk} {v k l : Int} (hb : b.1 <= ps.length) (e : tp b.1 = some (v, k)) (hl : b.2.1 = some l) (hv : v < l) : ∃ (i : Nat) (a : Mk), k = (i : Int) /\ ms[i]? = some a /\ gJ ps a b := by
 obtain ⟨i, m, h, e1, e2, e3, h4⟩ := T.val _ v k hb e
 exact ⟨i, m, e1, e2, h, l, e3, hl, by omega⟩
noncomputable def cf (ts : List (Option P2)) (t : Nat) : Option P2 := ts.getD t none
theorem MN {ts : List (Option P2)} {i : Nat} {x : Option P2} (h : i < ts.length) : cf (ts.set i x) = fS (cf ts) i x := by
 funext t
 unfold cf fS
 rw [List.getD_eq_getElem?_getD, List.getElem?_set]
 by_cases e : t = i
 ·subst e; rw [if_pos rfl, if_pos rfl, if_pos h]; rfl
 ·rw [if_neg (fun z => e z.symm), if_neg e]
  exact (List.getD_eq_getElem?_getD ..).symm
theorem MO (n : Nat) : cf (List.replicate n none) = fun _ => none := by
 funext t
 unfold cf
 rw [List.getD_eq_getElem?_getD, List.getElem?_replicate]
 split <;> rfl
end Gz
namespace Gz
open PySem L2
end Gz
namespace Gz
open PySem PySem.Spec PyProof.Rows L2
noncomputable def rowOf (H : Hp) : V -> List V
 | .ref p => match H p with
  | some (.tup xs) => xs
  | _ => []
 | _ => []
theorem mx {H : Hp} {p : Addr} {xs : List V} (h : H p = some (.tup xs)) : rowOf H (.ref p) = xs := by
 show (match H p with
  | some (.tup xs) => xs
  | _ => []) = xs
 rw [h]
noncomputable def fm (row : V -> List V) (tt : TT) : TT := fun σ H Q => match σ with
 | some v :: ρ => tt ((row v).map some ++ ρ) H Q
 | _ => False
noncomputable def fo (row : V -> List V) (te : TE) : TE := fun σ H Q => match σ with
 | some v :: ρ => te ((row v).map some ++ ρ) H Q
 | _ => False
section
variable {K : PySem.W.Frag} {ρ : L2.St} {tt : TT} {te : TE} {H : Hp} {Q : VK} {a : Addr} {xs : List V} {row : V -> List V}
noncomputable def kg (K : PySem.W.Frag) (a : Addr) (xs : List V) (row : V -> List V) (k : Nat) (H : Hp) : Prop := ai K H a xs /\ ∀ x ∈ xs, ∃ p, x = .ref p /\ ar K H p (row x) /\ (row x).length = k
theorem FI {k : Nat} {g : TG} (hg : ∀ (p : Addr) (ys : List V) (os : List (Option V)) (H : Hp) (Q : L2.St -> Hp -> Prop), os.length = k -> ys.length = k -> ar K H p ys -> Q (ys.map some ++ ρ) H -> g (.ref p) (os ++ ρ) H Q)
 (hn : xs.length <= sizeLine) (h : dr (kg K a xs row k) ρ (fm row tt) (fo row te) xs [] H fun zs H' => ∀ l, H' l = none -> Q (.ref l) (upd H' l (.lst zs))) :
 qd k (eZ K a) g ρ tt te H Q := by
 refine ⟨fun i m ys H => m = xs.length - i /\ i <= xs.length /\ ys.length <= i /\ dr (kg K a xs row k) ρ (fm row tt) (fo row te) (xs.drop i) ys H fun ys H' => ∀ l, H' l = none -> Q (.ref l) (upd H' l (.lst ys)), ⟨_, rfl, Nat.zero_le _, Nat.le_refl _, h⟩, ?_⟩
 rintro i m ys H ⟨rfl, hi, hy, c⟩
 by_cases aR : i < xs.length
 ·have e := List.drop_eq_getElem_cons aR
  rw [e] at c
  obtain ⟨⟨c0, c1⟩, c2⟩ := c
  have l1 : ∀ y : V, (ys ++ [y]).length <= i + 1 := fun y => by rw [List.length_append, List.length_singleton]; omega
  have l2 : ys.length <= i + 1 := by omega
  refine .inr ⟨⟨xs, _, c0, List.getElem?_eq_getElem aR⟩, by omega, fun zs H' => zs.length <= i + 1 /\ dr (kg K a xs row k) ρ (fm row tt) (fo row te) (xs.drop (i + 1)) zs H' fun ys H' => ∀ l, H' l = none -> Q (.ref l) (upd H' l (.lst ys)), fun zs H' q => ⟨_, by omega, rfl, aR, q.1, q.2⟩, fun os MP v H' y => ?_⟩
  obtain ⟨rfl, ex⟩ := y
  have ex := ex xs c0
  rw [List.getElem?_eq_getElem aR] at ex
  obtain ⟨p, ep, hp, hl⟩ := c1 xs[i] (List.getElem_mem _)
  cases ex
  rw [ep] at hp hl c2 ⊢
  refine hg p _ os _ _ MP hl hp ⟨(row (.ref p)).map some, by rw [List.length_map]; exact hl, rfl, ?_⟩
  simp only [l1, l2, true_and]
  exact c2
 ·have e : i = xs.length := by omega
  subst e
  rw [List.drop_length] at c
  exact .inl ⟨⟨xs, c.1.1, Nat.le_refl _⟩, by omega, c.2⟩
theorem MQ {p : Addr} {ys : List V} {os : List (Option V)} {H : Hp} {Q : L2.St -> Hp -> Prop} (ho : os.length = 2) (hy : ys.length = 2) (h : ar K H p ys) (q : Q (ys.map some ++ ρ) H) : gk K 2 (b8 (bG 0) (b8 (bG 1) gh)) (.ref p) (os ++ ρ) H Q := by
 match os, ho, ys, hy with
 | [o1, o2], _, [x, y], _ => exact lZ h q
theorem MR {p : Addr} {ys : List V} {os : List (Option V)} {H : Hp} {Q : L2.St -> Hp -> Prop} (ho : os.length = 3) (hy : ys.length = 3) (h : ar K H p ys) (q : Q (ys.map some ++ ρ) H) : gk K 3 (b8 (bG 0) (b8 (bG 1) (b8 (bG 2) gh))) (.ref p) (os ++ ρ) H Q := by
 match os, ho, ys, hy with
 | [o1, o2, o3], _, [x, y, z], _ => exact MH h q
theorem MS (hn : xs.length <= sizeLine) (h : dr (kg K a xs row 2) ρ (fm row tt) (fo row te) xs [] H fun zs H' => ∀ l, H' l = none -> Q (.ref l) (upd H' l (.lst zs))) :
 qd 2 (eZ K a) (gk K 2 (b8 (bG 0) (b8 (bG 1) gh))) ρ tt te H Q := FI (fun _ _ _ _ _ ho hy h q => MQ ho hy h q) hn h
theorem MT (hn : xs.length <= sizeLine) (h : dr (kg K a xs row 3) ρ (fm row tt) (fo row te) xs [] H fun zs H' => ∀ l, H' l = none -> Q (.ref l) (upd H' l (.lst zs))) :
 qd 3 (eZ K a) (gk K 3 (b8 (bG 0) (b8 (bG 1) (b8 (bG 2) gh)))) ρ tt te H Q := FI (fun _ _ _ _ _ ho hy h q => MR ho hy h q) hn h
end
end Gz
namespace Gz
open PySem PySem.Spec PyProof.Rows L2
theorem yZ {α β : Type} {R : Hp -> V -> α -> Prop} {R' : Hp -> V -> β -> Prop} {Ok : Hp -> Prop} {ρ : L2.St} {tt : TT} {te : TE} {p : α -> Bool} {f : α -> β} {Q' : List V -> Hp -> Prop} (mono : ∀ H H' x a, aj H H' -> R H x a -> R H' x a) (md : ∀ H H' x a, aj H H' -> R' H x a -> R' H' x a) : ∀ {xs : List V} {as : List α} {zs : List V} {bs : List β} {H : Hp}, ak (R H) xs as -> ak (R' H) zs bs -> (∀ H', aj H H' -> Ok H') ->
 (∀ x a, a ∈ as -> ∀ H', aj H H' -> R H' x a -> ∀ Q : Bool -> Hp -> Prop, Q (p a) H' -> tt (some x :: ρ) H' Q) -> (∀ x a, a ∈ as -> p a = true -> ∀ H', aj H H' -> R H' x a -> ∀ Q : VK, (∀ H2 y, aj H' H2 -> R' H2 y (f a) -> Q y H2) -> te (some x :: ρ) H' Q) -> (∀ H' ws, aj H H' -> ak (R' H') ws (bs ++ (as.filter p).map f) -> Q' ws H') -> dr Ok ρ tt te xs zs H Q'
 | [], [], zs, bs, H, _, hz, cp, _, _, q => ⟨cp H (aj.refl H), q H zs (aj.refl H) (by simpa using hz)⟩
 | x :: xs, a :: as, zs, bs, H, h, hz, cp, ht, he, q => by
  refine ⟨cp H (aj.refl H), ht x a (.head _) H (aj.refl H) h.1 _ ?_⟩
  by_cases hp : p a = true
  ·rw [if_pos hp]
   refine he x a (.head _) hp H (aj.refl H) h.1 _ fun H2 y s2 ry => ?_
   refine yZ mono md (bs := bs ++ [f a]) (h.2.imp fun _ _ r => mono _ _ _ _ s2 r) ((hz.imp fun _ _ r => md _ _ _ _ s2 r).snoc ry) (fun H' s' => cp H' (s2.trans s')) (fun x b hb H' s' => ht x b (.tail _ hb) H' (s2.trans s')) (fun x b hb hp H' s' => he x b (.tail _ hb) hp H' (s2.trans s')) fun H' ws s' hw => q H' ws (s2.trans s') ?_
   rw [List.filter_cons, if_pos hp]
   simpa using hw
  ·rw [if_neg hp]
   refine yZ mono md h.2 hz cp (fun x b hb => ht x b (.tail _ hb)) (fun x b hb hp => he x b (.tail _ hb) hp) fun H' ws s' hw => q H' ws s' ?_
   rw [List.filter_cons, if_neg hp]
   exact hw
 | [], _ :: _, _, _, _, h, _, _, _, _, _ => h.elim
 | _ :: _, [], _, _, _, h, _, _, _, _, _ => h.elim
end Gz
namespace Gz
open PySem PySem.Spec PyProof.Rows L2
section
variable {X : Cx} {e st : Expr} {te ts : TE} {p2 pos : Pos}
noncomputable def uf (K : PySem.W.Frag) (te ts : TE) : TE := fun σ H Q => te σ H fun x H1 => ts σ H1 fun y H2 => y = .int (-1) /\ ∃ a xs, x = .ref a /\ ai K H2 a xs /\ ∀ p, H2 p = none -> Q (.ref p) (upd H2 p (.lst xs.reverse))
end
end Gz
namespace Gz
open PySem PySem.Spec PyProof.Rows L2
theorem MU {K : PySem.W.Frag} {H1 H' : Hp} {l : Addr} {ys : List V} {tb : Tb} (hl : H1 l = some (.lst ys)) (hM : ak (cP H1) ys tb) (s : aj H1 H') : kg K l ys (rowOf H1) 3 H' := by
 refine ⟨ai.of (s _ _ hl), fun x hx => ?_⟩
 obtain ⟨i, hi⟩ := List.mem_iff_getElem?.mp hx
 obtain ⟨m, _, t, p, rfl, h1, h2⟩ := hM.get hi
 rw [mx h1]
 exact ⟨t, rfl, ar.of (s _ _ h1), rfl⟩
theorem map_some {α β : Type} {f : α -> Option β} : ∀ (l : List α), (l.map f).filterMap id = l.filterMap f
 | [] => rfl
 | a :: l => by
  rw [List.map_cons, List.filterMap_cons, List.filterMap_cons, map_some l]
  rfl
end Gz
namespace Gz
open PySem PySem.Spec PyProof.Rows L2
theorem lW.trans {p q r : S2} (hq : EL q) (h : lW p q) (h' : lW q r) : lW p r := by
 obtain ⟨a, b, e1, e2, h1⟩ := h
 obtain ⟨c, d, e3, e4, h2⟩ := h'
 unfold EL at hq
 rw [e2, e3] at hq
 have : b <= c := by simpa [bg] using hq
 exact ⟨a, d, e1, e4, by omega⟩
theorem ee {α : Type} {R : α -> α -> Prop} : ∀ {l : List α}, l.Pairwise R -> ∀ {p q : α}, p ∈ l -> q ∈ l -> p = q ∨ R p q ∨ R q p
 | [], _, _, _, h, _ => by cases h
 | x :: l, h, p, q, hp, hq => by
  have h1 := List.pairwise_cons.mp h
  rcases List.mem_cons.mp hp with e1 | i1 <;> rcases List.mem_cons.mp hq with e2 | i2
  ·exact .inl (e1.trans e2.symm)
  ·rw [e1]; exact .inr (.inl (h1.1 q i2))
  ·rw [e2]; exact .inr (.inr (h1.1 p i1))
  ·exact ee h1.2 i1 i2
theorem y3 : ∀ {a b : List Int}, HT.lexLt a b = false -> HT.lexLt b a = false -> a = b
 | [], [], _, _ => rfl
 | [], _ :: _, h, _ => by cases h
 | _ :: _, [], _, h => by cases h
 | x :: a, y :: b, h1, h2 => by
  rw [HT.pk] at h1 h2
  by_cases e : x = y
  ·subst e
   rw [if_pos rfl] at h1 h2
   rw [y3 h1 h2]
  ·rw [if_neg e] at h1
   rw [if_neg (Ne.symm e)] at h2
   have a1 : ¬ x < y := by simpa using h1
   have a2 : ¬ y < x := by simpa using h2
   exact absurd (Int.le_antisymm (Int.not_lt.mp a2) (Int.not_lt.mp a1)) e
theorem FK {α : Type} {R : α -> α -> Prop} : ∀ {as bs : List α}, (∀ x ∈ as, ∀ y ∈ as, R x y -> R y x -> x = y) -> as.Pairwise R -> bs.Pairwise R -> as.Perm bs -> as = bs
 | [], bs, _, _, _, h => h.nil_eq
 | a :: as, [], _, _, _, h => by cases h.length_eq
 | a :: as, b :: bs, ha, s1, s2, h => by
  have e : a = b := by
   have m1 : a ∈ b :: bs := h.mem_iff.mp (.head _)
   have m2 : b ∈ a :: as := h.mem_iff.mpr (.head _)
   rcases List.mem_cons.mp m1 with z | z
   ·exact z
   ·rcases List.mem_cons.mp m2 with y | y
    ·exact y.symm
    ·exact ha a (.head _) b (.tail _ y) ((List.pairwise_cons.mp s1).1 b y) ((List.pairwise_cons.mp s2).1 a z)
  subst e
  rw [FK (fun x hx y hy => ha x (.tail _ hx) y (.tail _ hy)) (List.pairwise_cons.mp s1).2 (List.pairwise_cons.mp s2).2 (List.Perm.cons_inv h)]
theorem ug {tb : Tb} : (gI tb).Perm tb := pQ
theorem FL {tb : Tb} : (gI tb).Pairwise fun a b => HT.lexLt [b.1.1, b.1.2] [a.1.1, a.1.2] = false := yg (f := fun r : P2 × S2 => [r.1.1, r.1.2]) rfl
theorem MV {tb : Tb} (hn : (tb.map (·.1)).Nodup) {x y : P2 × S2} (hx : x ∈ tb) (hy : y ∈ tb) (e : x.1 = y.1) : x = y := by
 induction tb with
 | nil => cases hx
 | cons r tb ih =>
  rw [List.map_cons, List.nodup_cons] at hn
  rcases List.mem_cons.mp hx with a | a <;> rcases List.mem_cons.mp hy with b | b
  ·rw [a, b]
  ·exact absurd (List.mem_map.mpr ⟨y, b, by rw [<- e, a]⟩) hn.1
  ·exact absurd (List.mem_map.mpr ⟨x, a, by rw [e, b]⟩) hn.1
  ·exact ih hn.2 a b
theorem MW {tb bB : Tb} (hn : (tb.map (·.1)).Nodup) (h : tb.Perm bB) : gI tb = gI bB := by
 refine FK (fun x hx y hy r1 r2 => MV hn (qm hx) (qm hy) ?_) FL FL (ug.trans (h.trans ug.symm))
 have := y3 r1 r2
 injection this with e1 e2
 injection e2 with e2 _
 exact Prod.ext e1.symm e2.symm
end Gz
namespace Gz
open PySem PySem.Spec PyProof.Rows L2
local macro_rules | `(tactic| walk_at "om") => `(tactic| ((try simp only [PySem.Addr] at *); omega))
section
variable {prog : Program} {w : World} {A : Around} {E : Value -> Shared -> Prop} {s : Shared}
end
end Gz
namespace Gz
open PySem PySem.Spec PyProof.Rows L2
local macro_rules | `(tactic| walk_at "om") => `(tactic| ((try simp only [PySem.Addr] at *); omega))
section
variable {X : Cx} {pins : List (Addr × Obj)} {σ : L2.St} {H : Hp} {s : Shared} {a : Addr} {kvs : List (List Key × V)} {o : Obj} {u u' : HO}
noncomputable def Loose : HO -> Prop
 | .dT _ => True
 | .aJ _ (.dT _) => True
 | _ => False
theorem FN (I : Inv X pins σ H s) (e : H a = some u) (lu : Loose u) (h0 : ∀ o v, X.H₀ a ≠ some (.aJ o v)) (new : bb X.prog X.w (upd H a u') s.heap a u') : Inv X pins σ (upd H a u') s := by
 have nn : ∀ b, H b = none -> b ≠ a := fun b h z => by rw [z, e] at h; cases h
 have nt : ∀ b xs, H b = some (.tup xs) -> b ≠ a := fun b xs h z => by rw [z, e] at h; cases h; exact lu
 have no : ∀ b x, H b = some (.own x) -> b ≠ a := fun b x h z => by rw [z, e] at h; cases h; exact lu
 have nb : ∀ b ps, H b = some (.tbl ps) -> b ≠ a := fun b ps h z => by rw [z, e] at h; cases h; exact lu
 refine ⟨I.ok, I.os, I.bare, ⟨I.base.keep, I.base.slot, fun b o e1 n hx => ?_, I.base.there, fun b xs e1 => ?_, fun b o v e1 => ?_, fun b ps e1 => ?_⟩, I.loc, I.cell, ?_, fun x c e1 => ?_, fun p hp => ?_, fun b ob e1 => ?_, I.len⟩
 ·have := I.base.free b o e1 n hx
  rw [ay (nn b this)]; exact this
 ·have := I.base.cv b xs e1
  rw [ay (nt b xs this)]; exact this
 ·have := I.base.cw b o v e1
  rw [ay (show b ≠ a from fun z => h0 o v (by rw [<- z]; exact e1))]; exact this
 ·obtain ⟨more, this⟩ := I.base.cG b ps e1
  exact ⟨more, by rw [ay (nb b _ this)]; exact this⟩
 ·rw [ay (nn _ I.free)]; exact I.free
 ·have := I.d9 x c e1
  rw [ay (nn c this)]; exact this
 ·obtain ⟨p1, p2, p3⟩ := I.pin p hp
  exact ⟨p1, by rw [ay (nn _ p2)]; exact p2, p3⟩
 ·by_cases hb : b = a
  ·subst hb
   rw [aw] at e1
   cases e1
   exact new
  ·rw [ay hb] at e1
   exact (I.ag b ob e1).d7 (fun _ _ _ q => q) (fun c h => by rw [ay (no c _ h)]; exact h) fun c xs h => by rw [ay (nt c xs h)]; exact h
theorem MX (I : Inv X pins σ H s) (e : H a = some (.dT kvs)) : ∃ o, Inv X pins σ (upd H a (.aJ o (.dT kvs))) s /\ ∀ o v, X.H₀ a ≠ some (.aJ o v) := by
 have h0 : ∀ o v, X.H₀ a ≠ some (.aJ o v) := fun o v z => by
  have := I.base.cw a o v z
  rw [e] at this; cases this
 have ok := I.ag a _ e
 obtain ⟨_, _, _, _, o, _, _, ho, _⟩ := id ok
 refine ⟨o, FN I e trivial h0 ⟨ho, ok.d7 (fun _ _ _ q => q) (fun c h => ?_) fun c xs h => ?_⟩, h0⟩
 ·rw [ay fun z => by rw [z, e] at h; cases h]; exact h
 ·rw [ay fun z => by rw [z, e] at h; cases h]; exact h
theorem uh (I : Inv X pins σ H s) (e : H a = some (.aJ o (.dT kvs))) (h0 : ∀ o v, X.H₀ a ≠ some (.aJ o v)) : Inv X pins σ (upd H a (.dT kvs)) s := by
 obtain ⟨_, ok⟩ := I.ag a _ e
 refine FN I e trivial h0 (ok.d7 (fun _ _ _ q => q) (fun c h => ?_) fun c xs h => ?_)
 ·rw [ay fun z => by rw [z, e] at h; cases h]; exact h
 ·rw [ay fun z => by rw [z, e] at h; cases h]; exact h
noncomputable def qq (a : Addr) (o : Obj) (kvs : List (List Key × V)) (D : Ends) : Ends where
 nx := fun σ H => H a = some (.aJ o (.dT kvs)) /\ D.nx σ (upd H a (.dT kvs))
 rt := fun v H => H a = some (.aJ o (.dT kvs)) /\ D.rt v (upd H a (.dT kvs))
 bk := fun σ H => H a = some (.aJ o (.dT kvs)) /\ D.bk σ (upd H a (.dT kvs))
 ct := fun σ H => H a = some (.aJ o (.dT kvs)) /\ D.ct σ (upd H a (.dT kvs))
noncomputable def qr (t : TS) : TS := fun D σ H => ∃ a kvs, H a = some (.dT kvs) /\ ∀ o, t (qq a o kvs D) σ (upd H a (.aJ o (.dT kvs)))
theorem MY {st : Stmt} {t : TS} (h : PS X st t) : PS X st (qr t) := by
 rintro pins s σ H D I ⟨a, kvs, e, q⟩
 obtain ⟨o, I1, h0⟩ := MX I e
 refine aq (h pins s σ _ _ I1 (q o)) fun f s' hf => ?_
 cases f with
 | next => obtain ⟨σ', H', I', e', q'⟩ := hf; exact ⟨σ', _, uh I' e' h0, q'⟩
 | brk => obtain ⟨σ', H', I', e', q'⟩ := hf; exact ⟨σ', _, uh I' e' h0, q'⟩
 | cont => obtain ⟨σ', H', I', e', q'⟩ := hf; exact ⟨σ', _, uh I' e' h0, q'⟩
 | ret v => obtain ⟨v', σ', H', I', r', e', q'⟩ := hf; exact ⟨v', σ', _, uh I' e' h0, r', q'⟩
noncomputable def ui (t : TE) : TE := fun σ H Q => ∃ a kvs, H a = some (.dT kvs) /\ ∀ o, t σ (upd H a (.aJ o (.dT kvs))) fun v H' => H' a = some (.aJ o (.dT kvs)) /\ Q v (upd H' a (.dT kvs))
noncomputable def eR (o : Obj) : List V := match o.data with
 | .dict es _ => es.toList.map fun e => match e.key with
  | .ref a => V.ref a
  | _ => V.non
 | _ => []
noncomputable def uj (a : Addr) (o : Obj) (kvs : List (List Key × V)) : It where
 go i H := H a = some (.aJ o (.dT kvs)) /\ i < kvs.length
 yld i H x H' := H' = H /\ (eR o)[i]? = some x
 stop i H := H a = some (.aJ o (.dT kvs)) /\ kvs.length <= i
noncomputable def my (tl : TE) : TI := fun σ H R => tl σ H fun x H1 => ∃ a o kvs, x = .ref a /\ H1 a = some (.aJ o (.dT kvs)) /\ (dQ H1 (eR o) kvs -> R (uj a o kvs) H1)
theorem y4 {P : Program} {w : World} {h : Heap} (ok : bh P w H h) (e : H a = some (.aJ o (.dT kvs))) : ∃ (as : List Addr) (es : Array DictEntry) (ep : Nat), dQ H (eR o) kvs /\ (a == sysModules) = false /\ dv h a es ep /\ o.data = .dict es ep /\ es.size = kvs.length /\ kvs.length <= sizeLine /\ ∀ i (hi : i < es.size), ∃ b, es[i].key = .ref b /\ (eR o)[i]? = some (.ref b) := by
 obtain ⟨ho, z, lo, xs, rel, o', es, ep, ck, hc, hd, he, hn⟩ := ok a _ e
 rw [ho] at ck
 cases ck
 have hl : xs.length = kvs.length := (Paired.length rel).symm
 have hs : es.size = xs.length := size_of_entries he
 have ek : eR o = (xs.map (·.2.1)).map V.ref := by
  unfold eR
  rw [hd]
  show es.toList.map _ = _
  rw [he, List.map_map, List.map_map]
  exact List.map_congr_left fun x _ => rfl
 refine ⟨xs.map (·.2.1), es, ep, ?_, lo, ⟨o, ho, hc, hd⟩, hd, hs.trans hl, z, fun i hi => ?_⟩
 ·rw [ek]; exact KT.Fp rel
 ·have hx : i < xs.length := by omega
  have e1 := entry_at he i
  rw [Array.getElem?_eq_getElem hi, List.getElem?_eq_getElem hx] at e1
  have e2 : es[i] = entryOfKey (tupleKind (cS P w)) xs[i] := by simpa using e1
  refine ⟨xs[i].2.1, by rw [e2]; rfl, ?_⟩
  rw [ek, List.getElem?_map, List.getElem?_map, List.getElem?_eq_getElem hx]
  rfl
theorem MZ {P : Program} {w : World} {K : PySem.W.Frag} {tg : Expr} (a it : Addr) (o : Obj) (kvs : List (List Key × V)) (dJ : a ≠ it) : Turn P w K tg (uj a o kvs) [it] it (fun i h => ∃ es ep, o.data = .dict es ep /\ i <= es.size /\ h.IsKeyIter it a i es.size ep) where
 mem := by simp
 obj := fun i h st b hb => by
  have e : b = it := by simpa using hb
  subst e
  obtain ⟨es, ep, _, _, ob, e, c, d⟩ := st
  exact ⟨ob, e, fun v z => by rw [d] at z; cases z⟩
 keep := fun i h h' st k => by
  obtain ⟨es, ep, h1, h2, ob, e, c, d⟩ := st
  exact ⟨es, ep, h1, h2, ob, k it (by simp) ob e, c, d⟩
 item := by
  intro X hP hw hK hc i pins s σ H E I hf st hg
  subst hP hw hK
  obtain ⟨e, hi⟩ := hg
  obtain ⟨es, ep, hd, hle, hit⟩ := st
  obtain ⟨as, es', hV, hk, lo, raw, eW, hs, hz, dG⟩ := y4 I.ag e
  rw [hd] at eW
  cases eW
  obtain ⟨f0, f1, f2, f3, f4, f5⟩ := hf it (by simp)
  have aZ : i < es.size := by omega
  obtain ⟨b, eb, kb⟩ := dG i aZ
  refine Fj hit raw aZ fun h' j8 sb => ?_
  have I1 : Inv X pins σ H { s with heap := h' } := I.turned (t' := s.toks) (fun b o hb e => (sb.2 b hb).trans e) f0 f1 f3 f4 f5
  obtain ⟨ob, e1, c1, d1⟩ := id j8
  exact ⟨es[i].key, rfl, oR (s := { s with heap := h' }) e1 c1 d1 (by decide) ⟨.ref b, H, I1, eb, ⟨rfl, kb⟩, ⟨es, ep, hd, aZ, j8⟩, fun b hb => (hf b hb).1⟩⟩
 done := by
  intro X hP hw hK hc i pins s σ H E I hf st hg
  subst hP hw hK
  obtain ⟨e, hi⟩ := hg
  obtain ⟨es, ep, hd, hle, hit⟩ := st
  obtain ⟨as, es', hV, hk, lo, raw, eW, hs, hz, dG⟩ := y4 I.ag e
  rw [hd] at eW
  cases eW
  obtain ⟨f0, f1, f2, f3, f4, f5⟩ := hf it (by simp)
  have ei : i = es.size := by omega
  subst ei
  exact Fl (I.ok.hd hc) hit raw fun h' eb => ⟨rfl, I.turned (t' := s.toks) (fun b o hb e => eb b o hb e) f0 f1 f3 f4 f5⟩
 self := fun _ _ _ _ _ st h => by
  obtain ⟨es, ep, _, _, hit⟩ := st
  exact wpAny_pyIter_keyiter hit h
theorem FO {tg l : Expr} {tl : TE} (hl : PE X l tl) : PI X tg l (my tl) := by
 intro pins s σ H R I h
 refine aq (hl pins s σ H _ I h) fun v s1 ⟨x, H1, I1, r1, q1⟩ => ?_
 obtain ⟨a, o, kvs, e, hf, q⟩ := q1
 subst e
 cases r1
 obtain ⟨as, es, ep, hk, lo, raw, hd, hs, hz, dG⟩ := y4 I1.ag hf
 refine Fi lo raw ?_
 refine ⟨s1.heap.objs.size, [s1.heap.objs.size], _, _, H1, rfl, I1.kept (t' := s1.toks) fun b o e => Heap.get?_push_of_some _ e, MZ a _ o kvs (Nat.ne_of_lt raw.lt), ⟨es, ep, hd, Nat.zero_le _, _, Heap.get?_push_size _ rfl, rfl, rfl⟩, fun b hb => ?_, q hk⟩
 have e : b = s1.heap.objs.size := by simpa using hb
 subst e
 exact I1.gp (Nat.le_refl _) (I1.ag.fresh (Nat.le_refl _))
theorem uk {tl : TE} {g : TG} {tb : TS} {D : Ends} : fJ (my tl) g tb D σ H = tl σ H (fun x H1 => ∃ a o kvs, x = .ref a /\ H1 a = some (.aJ o (.dT kvs)) /\ (dQ H1 (eR o) kvs -> FJ (uj a o kvs) g tb D σ H1)) := rfl
theorem FP {g : TG} {tb : TS} {D : Ends} {xs : List V} (Pv : Nat -> L2.St -> Hp -> Prop) (hk : eR o = xs) (W3 : xs.length = kvs.length) (h0 : Pv 0 σ H) (hl : ∀ i σ H, i <= xs.length -> Pv i σ H -> H a = some (.aJ o (.dT kvs)))
 (hs : ∀ i x σ H, xs[i]? = some x -> Pv i σ H -> g x σ H fun σ2 H2 => tb { D with nx := Pv (i + 1), ct := Pv (i + 1), bk := D.nx } σ2 H2) (hd : ∀ σ H, Pv xs.length σ H -> D.nx σ H) : FJ (uj a o kvs) g tb D σ H := by
 refine ⟨fun i m σ H => m = xs.length - i /\ i <= xs.length /\ Pv i σ H, ⟨xs.length, by simp, Nat.zero_le _, h0⟩, ?_⟩
 rintro i m σ H ⟨rfl, hi, p⟩
 have q := hl i σ H hi p
 by_cases aR : i < xs.length
 ·refine .inr ⟨⟨q, by omega⟩, Pv (i + 1), fun σ' H' p' => ⟨xs.length - (i + 1), by omega, rfl, aR, p'⟩, fun x H' y => ?_⟩
  obtain ⟨e, y⟩ := y
  subst e
  rw [hk] at y
  exact hs i x σ _ y p
 ·have e : i = xs.length := by omega
  subst e
  exact .inl ⟨⟨q, by omega⟩, hd σ H p⟩
end
theorem y6 {H : Hp} {a p : Addr} {u v w : HO} (e : H a = some u) (h : H p = some v) (ne : v ≠ u) : upd H a w p = some v := by rw [ay (xA h e ne)]; exact h
section
variable {H H0 H1 : Hp} {a p : Addr} {kvs : List (List Key × V)} {o : Obj}
theorem M0 (e : H0 a = some (.dT kvs)) (s : aj (upd H0 a (.aJ o (.dT kvs))) H1) : aj H0 (upd H1 a (.dT kvs)) := fun b u h => by
 by_cases hb : b = a
 ·subst hb; rw [e] at h; cases h; exact aw
 ·rw [ay hb]; exact s b u (by rw [ay hb]; exact h)
theorem M3 {xs : List V} (e : H a = some (.dT kvs)) (h : H p = some (.tup xs)) {u : HO} : upd H a u p = some (.tup xs) := y6 e h fun z => nomatch z
theorem M4 {xs : List V} (e : H a = some (.dT kvs)) (h : H p = some (.lst xs)) {u : HO} : upd H a u p = some (.lst xs) := y6 e h fun z => nomatch z
theorem aQ.aJ {v : V} {x y : En} (h : aQ H v x y) (e : H a = some (.dT kvs)) {u : HO} : aQ (upd H a u) v x y := let ⟨t, e1, h1⟩ := h; ⟨t, e1, M3 e h1⟩
theorem aK.aJ {tb : Tb} (h : aK H kvs tb) (e : H a = some (.dT kvs)) {u : HO} : aK (upd H a u) kvs tb := h.imp fun _ _ _ z => z.aJ e
theorem M5 {K : PySem.W.Frag} {xs : List V} (e : H a = some (.dT kvs)) (h : ai K H p xs) : ai K (upd H a (.aJ o (.dT kvs))) p xs := by
 rcases h with (h | ⟨z, h⟩) | h
 ·exact .inl (.inl (M4 e h))
 ·exact .inl (.inr ⟨z, y6 e h fun z => nomatch z⟩)
 ·exact .inr h
end
theorem bA.z {H : Hp} {a b : Addr} {kvs : List (List Key × V)} {k : List Key} {o : Obj} (e : H a = some (.aJ o (.dT kvs))) (eb : H b = some (.tup (k.map kV))) : bA H a (.ref b) (aY kvs k) := .inr ⟨kvs, k, b, .inr ⟨o, e⟩, rfl, eb, rfl⟩
end Gz
namespace Gz
open PySem PySem.Spec PyProof.Rows L2
noncomputable def iF (tb : Tb) (i : Int) : List Mk := ((gI tb).filter fun r => decide (r.1.1 = i)).map fun r => (r.1.2.toNat, r.2)
noncomputable def FQ (cs : List Int) (t : Nat) : Int := cs.getD t 0
theorem M6 {cs : List Int} {t : Nat} (h : t < cs.length) : (cs.map V.int)[t]? = some (V.int (FQ cs t)) := by
 rw [List.getElem?_map, List.getElem?_eq_getElem h]
 unfold FQ
 rw [List.getD_eq_getElem?_getD, List.getElem?_eq_getElem h]
 rfl
theorem M7 {tb rs : Tb} {s : P2} {w : S2} (h : tb.Perm rs) : (cu tb s w).Perm (cu rs s w) := by
 have e : (tb.any fun r => decide (r.1 = s)) = rs.any fun r => decide (r.1 = s) := by
  rw [Bool.eq_iff_iff, List.any_eq_true, List.any_eq_true]
  exact ⟨fun ⟨x, h1, h2⟩ => ⟨x, h.mem_iff.mp h1, h2⟩, fun ⟨x, h1, h2⟩ => ⟨x, h.mem_iff.mpr h1, h2⟩⟩
 unfold cu
 rw [e]
 split
 ·exact h.map _
 ·exact h.append_right _
theorem M8 {tb rs : Tb} {s : P2} (h : tb.Perm rs) : (j9 tb s).Perm (j9 rs s) := h.filter _
theorem M9 {tb : Tb} {s : P2} {w : S2} {r : P2 × S2} (h : r ∈ cu tb s w) : r ∈ tb ∨ r = (s, w) := by
 unfold cu at h
 split at h
 ·obtain ⟨x, hx, rfl⟩ := List.mem_map.mp h
  by_cases e : x.1 = s
  ·rw [if_pos e, e]; exact .inr rfl
  ·rw [if_neg e]; exact .inl hx
 ·rcases List.mem_append.mp h with z | z
  ·exact .inl z
  ·exact .inr (List.mem_singleton.mp z)
end Gz
namespace Gz
open PySem PySem.Spec PyProof.Rows L2
local macro_rules | `(tactic| walk_at "om") => `(tactic| ((try simp only [PySem.Addr] at *); omega))
structure FR (X : Cx) (x : Str) (scope : Scope) (cl : List (Str × Addr)) (fr : List Nat) (ys : List Str) : Prop where
 clos : closureFor scope X.env = pure cl
 one : ∀ n acc, PySem.cellsFrom n scope.names acc = (x, n) :: acc
 push : ∀ h, pushCells h scope.names = h.push { cls := .type "cell", data := .cell none }
 kind : scope.kind = .function
 names : (scope.names.all fun p => p.2 != .local || scope.names.lookup p.1 == some .local) = true
 own : scope.names.lookup x = some .cell
 kinds : ((relabel scope X.env).names.all fun p => (p.2 != .cell && p.2 != .free) || p.1 == x || (cl.lookup p.1).isSome) = true
 cls : iu X cl
 aN : fP X scope cl fr ys
 nd : (x :: ys).Nodup
 kfr : (ys.all fun y => (relabel scope X.env).names.lookup y == some .cell) = true
section
variable {X : Cx} {pins : List (Addr × Obj)} {σ : L2.St} {H2 : Hp} {s2 : Shared} {x : Str} {px pos : Pos} {elt iter : Expr} {ifs : List Expr} {scope : Scope} {cl : List (Str × Addr)} {fr : List Nat} {ys : List Str} {tt : TT} {te : TE}
theorem FR.low (S : FR X x scope cl fr ys) (I2 : Inv X pins σ H2 s2) {y : Str} {c : Addr} (e : cl.lookup y = some c) : c < s2.heap.objs.size := by
 obtain ⟨v, o, ho, _⟩ := I2.cell y c (S.cls.get y c e)
 exact Heap.lt_size ho
end
end Gz
namespace qt
open PySem
noncomputable def dS (mask i : Nat) : List Nat := (List.range (SetTable.runEnd mask i + 1 - i)).map (i + ·)
noncomputable def cA (mask : Nat) : Nat -> Nat -> Nat -> List Nat
 | 0, _, _ => []
 | n + 1, i, p => dS mask i ++ cA mask n (SetTable.leap mask i p).1 (SetTable.leap mask i p).2
noncomputable def road (mask : Nat) (h : Int) : List Nat := cA mask (SetTable.turns mask) (SetTable.bits h % (mask + 1)) (SetTable.bits h)
noncomputable def y7 (mask : Nat) : Nat -> Nat -> List Nat
 | 0, _ => []
 | n + 1, i => i :: y7 mask n ((i * 5 + 1) % (mask + 1))
noncomputable def um (l : List Nat) : Nat := l.foldr (fun x a => a ||| 2 ^ x) 0
theorem FT (j : Nat) : ∀ l : List Nat, (um l).testBit j = true -> j ∈ l
 | [], h => by simp [um] at h
 | x :: l, h => by
  have h' : ((um l) ||| 2 ^ x).testBit j = true := h
  rw [Nat.testBit_or, Bool.or_eq_true] at h'
  rcases h' with h' | h'
  ·exact List.mem_cons_of_mem _ (FT j l h')
  ·rw [Nat.testBit_two_pow] at h'
   rw [of_decide_eq_true h']; exact List.mem_cons_self
theorem Na (mask i : Nat) : i ∈ dS mask i := by
 unfold dS
 refine List.mem_map.mpr ⟨0, List.mem_range.mpr ?_, rfl⟩
 unfold SetTable.runEnd; split <;> omega
theorem FU (mask : Nat) : ∀ (n i : Nat), ∀ x ∈ y7 mask n i, x ∈ cA mask n i 0
 | 0, _, x, h => by cases h
 | n + 1, i, x, h => by
  rcases List.mem_cons.mp h with rfl | h
  ·exact List.mem_append_left _ (Na _ _)
  ·refine List.mem_append_right _ ?_
   have := FU mask n _ x h
   simpa [SetTable.leap] using this
theorem FV (mask : Nat) : ∀ (k n i p : Nat), i <= mask -> ∃ i', i' <= mask /\ ∀ x ∈ cA mask n i' (p / 32 ^ k), x ∈ cA mask (k + n) i p
 | 0, n, i, p, hi => ⟨i, hi, fun x h => by simpa using h⟩
 | k + 1, n, i, p, hi => by
  obtain ⟨i', hi, h⟩ := FV mask k n (SetTable.leap mask i p).1 (SetTable.leap mask i p).2 (Nat.le_of_lt_succ (Nat.mod_lt _ (by omega)))
  refine ⟨i', hi, fun x hx => ?_⟩
  rw [show k + 1 + n = (k + n) + 1 from by omega]
  refine List.mem_append_right _ (h x ?_)
  have : (SetTable.leap mask i p).2 / 32 ^ k = p / 32 ^ (k + 1) := by
   show p / 32 / 32 ^ k = _
   rw [Nat.div_div_eq_div_mul, Nat.pow_succ, Nat.mul_comm]
  rw [this]; exact hx
noncomputable def fT (m : Nat) : Prop := m = 7 ∨ m = 31 ∨ m = 127
theorem Nb {m : Nat} (hm : fT m) : ((List.range (m + 1)).all fun i => um (y7 m (m + 2) i) == 2 ^ (m + 1) - 1) = true := by
 rcases hm with rfl | rfl | rfl <;> decide +kernel
theorem Nc {m : Nat} (hm : fT m) (h : Int) {j : Nat} (hj : j <= m) : j ∈ road m h := by
 unfold road
 have hb : SetTable.bits h < 2 ^ 64 := by unfold SetTable.bits; omega
 obtain ⟨i', hi, k⟩ := FV m 13 (m + 2) (SetTable.bits h % (m + 1)) (SetTable.bits h) (Nat.le_of_lt_succ (Nat.mod_lt _ (by omega)))
 rw [show SetTable.turns m = 13 + (m + 2) from by unfold SetTable.turns; omega]
 refine k j ?_
 rw [Nat.div_eq_of_lt (Nat.lt_of_lt_of_le hb (by decide))]
 refine FU m _ _ j (FT j _ ?_)
 have := List.all_eq_true.mp (Nb hm) i' (List.mem_range.mpr (by omega))
 rw [eq_of_beq this, Nat.testBit_two_pow_sub_one]
 simp; omega
theorem Nd {m i x : Nat} (hi : i <= m) (h : x ∈ dS m i) : x <= m := by
 unfold dS at h
 obtain ⟨k, hk, rfl⟩ := List.mem_map.mp h
 have := List.mem_range.mp hk
 unfold SetTable.runEnd at this; split at this <;> omega
theorem FW {m : Nat} : ∀ (n i p : Nat), i <= m -> ∀ x ∈ cA m n i p, x <= m
 | 0, _, _, _, x, h => by cases h
 | n + 1, i, p, hi, x, h => by
  rcases List.mem_append.mp h with h | h
  ·exact Nd hi h
  ·exact FW n _ _ (Nat.le_of_lt_succ (Nat.mod_lt _ (by omega))) x h
theorem uo {m : Nat} {h : Int} {x : Nat} (hx : x ∈ road m h) : x <= m := FW _ _ _ (Nat.le_of_lt_succ (Nat.mod_lt _ (by omega))) x hx
theorem y9 {α : Type} [DecidableEq α] (p : α -> Prop) [DecidablePred p] : ∀ l : List α, (∃ x ∈ l, p x) -> ∃ a x b, l = a ++ x :: b /\ p x /\ ∀ y ∈ a, ¬ p y
 | [], ⟨x, h, _⟩ => by cases h
 | y :: l, ⟨x, h, px⟩ => by
  by_cases py : p y
  ·exact ⟨[], y, l, rfl, py, fun _ h => by cases h⟩
  ·rcases List.mem_cons.mp h with rfl | h
   ·exact absurd px py
   ·obtain ⟨a, z, b, e, pz, k⟩ := y9 p l ⟨x, h, px⟩
    exact ⟨y :: a, z, b, by rw [e]; rfl, pz, fun q hq => (List.mem_cons.mp hq).elim (fun e => e ▸ py) (k q)⟩
noncomputable def gL (t : SetTable) : Nat -> SetTable.Probe -> List Nat
 | 0, _ => []
 | n + 1, p => p.j :: gL t n (t.advance p)
theorem FX (t : SetTable) : ∀ (k n : Nat) (p : SetTable.Probe), p.more + 1 = k -> ∃ p', gL t (k + n) p = (List.range k).map (p.j + ·) ++ gL t n p' /\
 p'.i = (SetTable.leap t.mask p.i p.perturb).1 /\ p'.j = p'.i /\ p'.more = SetTable.runEnd t.mask p'.i - p'.i /\ p'.perturb = (SetTable.leap t.mask p.i p.perturb).2 /\ p'.dummy = p.dummy
 | 0, n, p, h => by omega
 | 1, n, p, h => by
  refine ⟨t.advance p, ?_, ?_⟩
  ·rw [Nat.add_comm]; simp [gL, List.range_succ]
  ·have : p.more = 0 := by omega
   simp [SetTable.advance, this, SetTable.leap]
 | k + 2, n, p, h => by
  have hm : p.more > 0 := by omega
  have ha : t.advance p = { p with j := p.j + 1, more := p.more - 1 } := by simp [SetTable.advance, hm]
  obtain ⟨p', e, r⟩ := FX t (k + 1) n (t.advance p) (by rw [ha]; show p.more - 1 + 1 = k + 1; omega)
  rw [ha] at e r
  refine ⟨p', ?_, r⟩
  rw [show k + 2 + n = (k + 1 + n) + 1 from by omega]
  show p.j :: gL t (k + 1 + n) (t.advance p) = _
  rw [ha, e, List.range_succ_eq_map (n := k + 1)]
  simp only [List.map_cons, List.map_map, Nat.add_zero, List.cons_append, List.cons.injEq, true_and]
  congr 1
  apply List.map_congr_left
  intro a _
  simp; omega
theorem FY (t : SetTable) : ∀ (n m : Nat) (p : SetTable.Probe), p.j = p.i -> p.more = SetTable.runEnd t.mask p.i - p.i -> 10 * n <= m -> ∃ r, gL t m p = cA t.mask n p.i p.perturb ++ r
 | 0, m, p, _, _, _ => ⟨_, rfl⟩
 | n + 1, m, p, hj, hm, hl => by
  have hk : p.more + 1 <= 10 := by rw [hm]; unfold SetTable.runEnd; split <;> omega
  obtain ⟨p', e, e1, e2, e3, e4, e5⟩ := FX t (p.more + 1) (m - (p.more + 1)) p rfl
  rw [show p.more + 1 + (m - (p.more + 1)) = m from by omega] at e
  obtain ⟨r, er⟩ := FY t n (m - (p.more + 1)) p' e2 e3 (by omega)
  refine ⟨r, ?_⟩
  rw [e, er, e1, e4, <- List.append_assoc]
  congr 1
  show _ = dS t.mask p.i ++ _
  congr 1
  unfold dS
  rw [hj, show SetTable.runEnd t.mask p.i + 1 - p.i = p.more + 1 from by rw [hm]; unfold SetTable.runEnd; split <;> omega]
theorem FZ (t : SetTable) (h : Int) : ∃ r, gL t (10 * SetTable.turns t.mask) (t.probeStart h) = road t.mask h ++ r :=
 FY t _ _ _ rfl rfl (Nat.le_refl _)
theorem Nf (t : SetTable) (p : SetTable.Probe) : (t.advance p).dummy = p.dummy := by unfold SetTable.advance; split <;> rfl
theorem F0 (t : SetTable) (f : Nat -> Int) (h : Int) (j : Nat) (r : List Nat) (hj : t.slot j = .empty) : ∀ (l : List Nat) (n : Nat) (p : SetTable.Probe), gL t n p = l ++ j :: r ->
 (∀ q ∈ l, ∃ i, t.slot q = .live i /\ f i ≠ h) -> SetTable.probe.go t f h n p = some (.empty j p.dummy)
 | l, 0, p, e, _ => by cases l <;> cases e
 | [], n + 1, p, e, _ => by
  obtain ⟨e1, _⟩ := List.cons.inj e
  simp only [SetTable.probe.go, e1, hj]
 | q :: l, n + 1, p, e, hl => by
  obtain ⟨e1, e2⟩ := List.cons.inj e
  obtain ⟨i, hi, hf⟩ := hl q List.mem_cons_self
  simp only [SetTable.probe.go, e1, hi, beq_iff_eq, hf, if_false]
  rw [F0 t f h j r hj l n _ e2 (fun q hq => hl q (List.mem_cons_of_mem _ hq)), Nf]
theorem F1 (t : SetTable) (f : Nat -> Int) (h : Int) (j i₀ : Nat) (r : List Nat) (hj : t.slot j = .live i₀) (hf : f i₀ = h) : ∀ (l : List Nat) (n : Nat) (p : SetTable.Probe), gL t n p = l ++ j :: r ->
 (∀ q ∈ l, ∃ i, t.slot q = .live i /\ f i ≠ h) -> ∃ nx, SetTable.probe.go t f h n p = some (.candidate j i₀ nx)
 | l, 0, p, e, _ => by cases l <;> cases e
 | [], n + 1, p, e, _ => by
  obtain ⟨e1, _⟩ := List.cons.inj e
  exact ⟨t.advance p, by simp only [SetTable.probe.go, e1, hj, hf, beq_self_eq_true, if_true]⟩
 | q :: l, n + 1, p, e, hl => by
  obtain ⟨e1, e2⟩ := List.cons.inj e
  obtain ⟨i, hi, uq⟩ := hl q List.mem_cons_self
  simp only [SetTable.probe.go, e1, hi, beq_iff_eq, uq, if_false]
  exact F1 t f h j i₀ r hj hf l n _ e2 (fun q hq => hl q (List.mem_cons_of_mem _ hq))
theorem za (xs : Array Nat) (j : Nat) : ∀ (n lo hi : Nat), hi - lo <= n -> lo <= hi -> hi <= xs.size -> (∀ k, k < lo -> xs.getD k j < j) -> (∀ k, hi <= k -> k < xs.size -> ¬ xs.getD k j < j) ->
 (∀ a b, a < b -> b < xs.size -> xs.getD a j < xs.getD b j) ->
 let r := SetTable.below.go xs j n lo hi
 r <= xs.size /\ (∀ k, k < r -> xs.getD k j < j) /\ (∀ k, r <= k -> k < xs.size -> ¬ xs.getD k j < j)
 | 0, lo, hi, hn, hl, hs, h1, h2, hr => by
  obtain rfl : lo = hi := by omega
  exact ⟨hs, h1, h2⟩
 | n + 1, lo, hi, hn, hl, hs, h1, h2, hr => by
  dsimp only
  unfold SetTable.below.go
  by_cases aR : lo < hi
  ·simp only [aR, if_true]
   by_cases hm : xs.getD ((lo + hi) / 2) j < j
   ·simp only [hm, if_true]
    exact za xs j n _ hi (by omega) (by omega) hs (fun k hk => by
     by_cases e : k = (lo + hi) / 2
     ·rw [e]; exact hm
     ·have := hr k ((lo + hi) / 2) (by omega) (by omega)
      omega) h2 hr
   ·simp only [hm, if_false]
    exact za xs j n lo _ (by omega) (by omega) (by omega) h1 (fun k hk eQ => by
     by_cases e : k = (lo + hi) / 2
     ·rw [e]; exact hm
     ·have := hr ((lo + hi) / 2) k (by omega) eQ
      omega) hr
  ·simp only [aR, if_false]
   obtain rfl : lo = hi := by omega
   exact ⟨hs, h1, h2⟩
noncomputable def gH (l : List Nat) : Prop := l.Pairwise (· < ·)
theorem Ng {l : List Nat} (h : gH l) (j : Nat) {a b : Nat} (cM : a < b) (hb : b < l.toArray.size) : l.toArray.getD a j < l.toArray.getD b j := by
 have b0 : b < l.length := by simpa using hb
 have := List.pairwise_iff_getElem.mp h a b (by omega) b0 cM
 simpa [Array.getD, b0, show a < l.length from by omega] using this
theorem ur {l : List Nat} (h : gH l) (j : Nat) : let r := SetTable.below l.toArray j
 r <= l.length /\ (∀ x ∈ l.take r, x < j) /\ (∀ x ∈ l.drop r, j <= x) := by
 have k := za l.toArray j l.toArray.size 0 l.toArray.size (by omega) (by omega) (by omega) (fun k hk => by omega) (fun k F4 eQ => by omega) (fun a b cM hb => Ng h j cM hb)
 dsimp only at k ⊢
 rw [show SetTable.below.go l.toArray j l.toArray.size 0 l.toArray.size = SetTable.below l.toArray j from rfl] at k
 obtain ⟨k1, k2, k3⟩ := k
 have Nh : SetTable.below l.toArray j <= l.length := by simpa using k1
 refine ⟨Nh, fun x hx => ?_, fun x hx => ?_⟩
 ·obtain ⟨i, hi, rfl⟩ := List.getElem_of_mem hx
  have aZ : i < SetTable.below l.toArray j := by simp at hi; omega
  have := k2 i aZ
  have hl : i < l.length := by omega
  simpa [Array.getD, hl] using this
 ·obtain ⟨i, hi, rfl⟩ := List.getElem_of_mem hx
  have aZ : SetTable.below l.toArray j + i < l.length := by simp at hi; omega
  have := k3 (SetTable.below l.toArray j + i) (by omega) (by simpa using aZ)
  simpa [Array.getD, aZ] using this
theorem below_at {l : List Nat} (h : gH l) {i : Nat} {j : Nat} (hi : l[i]? = some j) : SetTable.below l.toArray j = i := by
 have hb := ur h j
 dsimp only at hb
 generalize SetTable.below l.toArray j = r at hb
 obtain ⟨hr, h1, h2⟩ := hb
 obtain ⟨hil, dI⟩ := List.getElem?_eq_some_iff.mp hi
 rcases Nat.lt_trichotomy r i with aR | rfl | hgt
 ·exfalso
  have := h2 l[r] (List.mem_drop_iff_getElem.mpr ⟨0, by omega, by simp⟩)
  have := List.pairwise_iff_getElem.mp h r i (by omega) hil aR
  omega
 ·rfl
 ·exfalso
  have := h1 l[i] (List.mem_take_iff_getElem.mpr ⟨i, by omega, rfl⟩)
  omega
theorem Ni {l : List Nat} (h : gH l) {i : Nat} {j : Nat} (hi : l[i]? = some j) : SetTable.below l.toArray (j + 1) = i + 1 := by
 have hb := ur h (j + 1)
 dsimp only at hb
 generalize SetTable.below l.toArray (j + 1) = r at hb
 obtain ⟨hr, h1, h2⟩ := hb
 obtain ⟨hil, dI⟩ := List.getElem?_eq_some_iff.mp hi
 rcases Nat.lt_trichotomy r (i + 1) with aR | rfl | hgt
 ·exfalso
  have W4 : r <= i := by omega
  have h3 := h2 l[i] (List.mem_drop_iff_getElem.mpr ⟨i - r, by omega, by congr 1; omega⟩)
  omega
 ·rfl
 ·exfalso
  have h3 := h1 l[i + 1] (List.mem_take_iff_getElem.mpr ⟨i + 1, by omega, rfl⟩)
  have := List.pairwise_iff_getElem.mp h i (i + 1) hil (by omega) (by omega)
  omega
noncomputable def gM (m : Nat) (h : Int) (occ : List Nat) (s : Nat) : Prop := ∃ l r, road m h = l ++ s :: r /\ s ∉ l /\ ∀ q ∈ l, q ∈ occ
theorem gM.mono {m : Nat} {h : Int} {occ F5 : List Nat} {s : Nat} (k : ∀ q ∈ occ, q ∈ F5) : gM m h occ s -> gM m h F5 s
 | ⟨l, r, e, n, a⟩ => ⟨l, r, e, n, fun q hq => k q (a q hq)⟩
theorem F6 : ∀ (n : Nat) (l : List Nat), (∀ j, j < n -> j ∈ l) -> n <= l.length
 | 0, _, _ => Nat.zero_le _
 | n + 1, l, h => by
  have := F6 n (l.erase n) fun j hj => (List.mem_erase_of_ne (by omega)).mpr (h j (by omega))
  rw [List.length_erase_of_mem (h n (by omega))] at this
  have := List.length_pos_of_mem (h n (by omega))
  omega
theorem F7 {m : Nat} (hm : fT m) (h : Int) {occ : List Nat} (hn : occ.length <= m) : ∃ s, gM m h occ s /\ s ∉ occ /\ s <= m := by
 have hex : ∃ x ∈ road m h, x ∉ occ := by
  refine Classical.byContradiction fun hc => ?_
  have all : ∀ j, j <= m -> j ∈ occ := fun j hj => Classical.byContradiction fun zb => hc ⟨j, Nc hm h hj, zb⟩
  have := F6 (m + 1) occ fun j hj => all j (by omega)
  omega
 obtain ⟨a, x, b, e, px, k⟩ := y9 (fun x => x ∉ occ) (road m h) hex
 exact ⟨x, ⟨a, b, e, fun hx => k x hx px, fun q hq => Classical.byContradiction (k q hq)⟩, px, uo (by rw [e]; simp)⟩
structure Tok {β : Type} (t : SetTable) (L : List (Nat × Int × β)) : Prop where
 pl : t.place = (L.map (·.1)).toArray
 du : t.dummies = #[]
 ri : gH (L.map (·.1))
 le : ∀ e ∈ L, e.1 <= t.mask
 om : fT t.mask
 rm : L.length <= t.mask
 ro : ∀ e ∈ L, gM t.mask e.2.1 (L.map (·.1)) e.1
section
variable {β : Type} {t : SetTable} {L : List (Nat × Int × β)}
theorem Tok.live (k : Tok t L) {i q : Nat} (h : (L.map (·.1))[i]? = some q) : t.slot q = .live i := by
 unfold SetTable.slot
 rw [k.pl, below_at k.ri h]
 simp [h] at h ⊢
theorem Tok.empty (k : Tok t L) {q : Nat} (h : q ∉ L.map (·.1)) : t.slot q = .empty := by
 unfold SetTable.slot
 have h1 : ((t.place[SetTable.below t.place q]? == some q)) = false := by
  rw [k.pl]
  cases hb : ((L.map (·.1)).toArray[SetTable.below (L.map (·.1)).toArray q]? == some q) with
  | false => rfl
  | true =>
   have := eq_of_beq hb
   rw [List.getElem?_toArray] at this
   exact absurd (List.mem_of_getElem? this) h
 have h2 : SetTable.has t.dummies q = false := by rw [k.du]; rfl
 simp only [h1, h2, Bool.false_eq_true, if_false]
theorem Tok.hit (k : Tok t L) {f : Nat -> Int} (hf : ∀ i e, L[i]? = some e -> f i = e.2.1) {e : Nat × Int × β} (he : e ∈ L) (hu : ∀ e' ∈ L, e'.2.1 = e.2.1 -> e' = e) :
 ∃ j i nx, t.probe f e.2.1 (t.probeStart e.2.1) = some (.candidate j i nx) /\ L[i]? = some e := by
 obtain ⟨l, r, e1, e2, e3⟩ := k.ro e he
 obtain ⟨i, hi, hie⟩ := List.getElem_of_mem he
 have hL : L[i]? = some e := List.getElem?_eq_some_iff.mpr ⟨hi, hie⟩
 obtain ⟨r', er⟩ := FZ t e.2.1
 rw [e1, List.append_assoc] at er
 obtain ⟨nx, hx⟩ := F1 t f e.2.1 e.1 i (r ++ r') (k.live (by simp [hL])) (hf i e hL) l _ _ er fun q hq => by
  obtain ⟨i', aZ, eo⟩ := List.getElem_of_mem (e3 q hq)
  have hl : i' < L.length := by simpa using aZ
  refine ⟨i', k.live (List.getElem?_eq_some_iff.mpr ⟨aZ, eo⟩), fun hc => ?_⟩
  rw [hf i' L[i'] (List.getElem?_eq_getElem hl)] at hc
  have := hu _ (List.getElem_mem hl) hc
  have Nj : q = e.1 := by rw [<- eo, List.getElem_map, this]
  exact e2 (Nj ▸ hq)
 exact ⟨e.1, i, nx, hx, hL⟩
theorem Tok.miss (k : Tok t L) {f : Nat -> Int} (hf : ∀ i e, L[i]? = some e -> f i = e.2.1) {h : Int} (hu : ∀ e' ∈ L, e'.2.1 ≠ h) :
 ∃ j, t.probe f h (t.probeStart h) = some (.empty j none) /\ j ∉ L.map (·.1) /\ j <= t.mask /\ gM t.mask h (L.map (·.1)) j := by
 obtain ⟨j, ⟨l, r, e1, e2, e3⟩, hj, hm⟩ := F7 k.om h (occ := L.map (·.1)) (by have := k.rm; simp; omega)
 obtain ⟨r', er⟩ := FZ t h
 rw [e1, List.append_assoc] at er
 have := F0 t f h j (r ++ r') (k.empty hj) l _ _ er fun q hq => by
  obtain ⟨i', aZ, eo⟩ := List.getElem_of_mem (e3 q hq)
  have hl : i' < L.length := by simpa using aZ
  refine ⟨i', k.live (List.getElem?_eq_some_iff.mpr ⟨aZ, eo⟩), fun hc => ?_⟩
  rw [hf i' L[i'] (List.getElem?_eq_getElem hl)] at hc
  exact hu _ (List.getElem_mem hl) hc
 exact ⟨j, this, hj, hm, l, r, e1, e2, e3⟩
noncomputable def cD (L : List (Nat × Int × β)) (p : Nat) (e : Nat × Int × β) : List (Nat × Int × β) := L.take p ++ e :: L.drop p
theorem qu (p : Nat) (e : Nat × Int × β) : (cD L p e).Perm (e :: L) := by
 unfold cD
 refine List.perm_middle.trans ?_
 rw [List.take_append_drop]
theorem zc {α : Type} (l : List α) (p : Nat) (x : α) : SetTable.insertAt l.toArray p x = (l.take p ++ x :: l.drop p).toArray := by
 unfold SetTable.insertAt
 apply Array.ext'
 simp [Array.toList_extract, List.extract]
 exact List.take_of_length_le (by simp)
theorem Tok.put (k : Tok t L) {j : Nat} {h : Int} {x : β} (hj : j ∉ L.map (·.1)) (hm : j <= t.mask) (ho : gM t.mask h (L.map (·.1)) j) (hs : L.length < t.mask) :
 ∃ t' p, t.put j = (t', p) /\ Tok t' (cD L p (j, h, x)) /\ SetTable.insertAt (L.map (·.2)).toArray p (h, x) = ((cD L p (j, h, x)).map (·.2)).toArray /\
  t'.mask = t.mask /\ t'.led = t.led /\ t'.plain = t.plain /\ t'.fill = L.length + 1 := by
 have hb := ur k.ri j
 dsimp only at hb
 obtain ⟨h0, h1, h2⟩ := hb
 have hd : SetTable.has t.dummies j = false := by rw [k.du]; rfl
 generalize hp : SetTable.below (L.map (·.1)).toArray j = p at h0 h1 h2
 have e1 : (cD L p (j, h, x)).map (·.1) = (L.map (·.1)).take p ++ j :: (L.map (·.1)).drop p := by simp [cD]
 have mem : ∀ q ∈ L.map (·.1), q ∈ (cD L p (j, h, x)).map (·.1) := fun q hq => ((qu p (j, h, x)).map (·.1)).mem_iff.mpr (List.mem_cons_of_mem _ hq)
 refine ⟨{ t with place := SetTable.insertAt (L.map (·.1)).toArray p j }, p, by unfold SetTable.put; simp only [k.pl, hp, hd, Bool.false_eq_true, if_false], ?_, ?_, rfl, rfl, rfl, ?_⟩
 ·refine ⟨?_, k.du, ?_, fun e he => ?_, k.om, ?_, fun e he => ?_⟩
  ·show SetTable.insertAt (L.map (·.1)).toArray p j = _
   rw [zc, e1]
  ·rw [e1]
   have hr := k.ri
   unfold gH at hr ⊢
   rw [<- List.take_append_drop p (L.map (·.1)), List.pairwise_append] at hr
   refine List.pairwise_append.mpr ⟨hr.1, List.pairwise_cons.mpr ⟨fun y hy => ?_, hr.2.1⟩, fun a ha b hb => ?_⟩
   ·have := h2 y hy
    have : y ≠ j := fun e => hj (e ▸ List.mem_of_mem_drop hy)
    omega
   ·rcases List.mem_cons.mp hb with rfl | hb
    ·exact h1 a ha
    ·exact hr.2.2 a ha b hb
  ·rcases List.mem_cons.mp ((qu p (j, h, x)).mem_iff.mp he) with rfl | he
   ·exact hm
   ·exact k.le e he
  ·rw [(qu p (j, h, x)).length_eq]; exact hs
  ·rcases List.mem_cons.mp ((qu p (j, h, x)).mem_iff.mp he) with rfl | he
   ·exact ho.mono mem
   ·exact (k.ro e he).mono mem
 ·rw [zc]; simp [cD]
 ·show (SetTable.insertAt _ _ _).size + t.dummies.size = _
  rw [zc, k.du]
  simp
  simp at h0
  omega
theorem Ga (f : Nat -> Bool) : ∀ n, (∃ k, (List.range n).find? f = some k /\ k < n /\ f k = true /\ ∀ i, i < k -> f i = false) ∨ ((List.range n).find? f = none /\ ∀ i, i < n -> f i = false)
 | 0 => .inr ⟨rfl, fun i h => by omega⟩
 | n + 1 => by
  rw [List.range_succ, List.find?_append]
  rcases Ga f n with ⟨k, e, h1, h2, h3⟩ | ⟨e, h1⟩
  ·exact .inl ⟨k, by rw [e]; rfl, by omega, h2, h3⟩
  ·by_cases hf : f n = true
   ·exact .inl ⟨n, by rw [e]; simp [hf], by omega, hf, h1⟩
   ·have uq : f n = false := by simpa using hf
    refine .inr ⟨by rw [e]; simp [uq], fun i hi => ?_⟩
    by_cases b9 : i = n
    ·rw [b9]; exact uq
    ·exact h1 i (by omega)
theorem Gb (m : Nat) (o : Array (Option Nat)) : ∀ (n i p : Nat), i <= m -> (∃ x ∈ cA m n i p, o.getD x (some 0) = none) ->
 ∃ j l r, SetTable.layClean.free m o n i p = some j /\ cA m n i p = l ++ j :: r /\ o.getD j (some 0) = none /\ ∀ q ∈ l, o.getD q (some 0) ≠ none
 | 0, i, p, _, ⟨x, h, _⟩ => by cases h
 | n + 1, i, p, hi, hx => by
  unfold SetTable.layClean.free
  rcases Ga (fun k => (o.getD (i + k) (some 0)).isNone) (SetTable.runEnd m i + 1 - i) with ⟨k, e, h1, h2, h3⟩ | ⟨e, h1⟩
  ·rw [e]
   refine ⟨i + k, (List.range k).map (i + ·), ((List.range (SetTable.runEnd m i + 1 - i)).map (i + ·)).drop (k + 1) ++ cA m n (SetTable.leap m i p).1 (SetTable.leap m i p).2, rfl, ?_, Option.isNone_iff_eq_none.mp h2, fun q hq => ?_⟩
   ·show dS m i ++ _ = _
    unfold dS
    generalize SetTable.runEnd m i + 1 - i = N at h1 ⊢
    have : (List.range N).map (i + ·) = (List.range k).map (i + ·) ++ (i + k) :: ((List.range N).map (i + ·)).drop (k + 1) := by
     refine List.ext_getElem? fun a => ?_
     rcases Nat.lt_trichotomy a k with h | h | h
     ·rw [List.getElem?_append_left (by simpa using h)]
      simp [h, show a < N from by omega]
     ·subst h
      rw [List.getElem?_append_right (by simp)]
      simp [h1]
     ·rw [List.getElem?_append_right (by simp; omega)]
      simp only [List.length_map, List.length_range]
      obtain ⟨d, rfl⟩ : ∃ d, a = k + 1 + d := ⟨a - (k + 1), by omega⟩
      rw [show k + 1 + d - k = d + 1 from by omega, List.getElem?_cons_succ, List.getElem?_drop]
    conv => lhs; rw [this]
    simp
   ·obtain ⟨d, hd, rfl⟩ := List.mem_map.mp hq
    have := h3 d (List.mem_range.mp hd)
    intro hc
    rw [hc] at this
    cases this
  ·rw [e]
   have Ge : ∀ q ∈ dS m i, o.getD q (some 0) ≠ none := fun q hq hc => by
    unfold dS at hq
    obtain ⟨d, hd, rfl⟩ := List.mem_map.mp hq
    have := h1 d (List.mem_range.mp hd)
    rw [hc] at this
    cases this
   obtain ⟨x, kh, Gf⟩ := hx
   rcases List.mem_append.mp kh with kh | kh
   ·exact absurd Gf (Ge x kh)
   ·obtain ⟨j, l, r, f1, f2, f3, f4⟩ := Gb m o n (SetTable.leap m i p).1 (SetTable.leap m i p).2 (Nat.le_of_lt_succ (Nat.mod_lt _ (by omega))) ⟨x, kh, Gf⟩
    exact ⟨j, dS m i ++ l, r, f1, by show dS m i ++ _ = _; rw [f2, List.append_assoc], f3, fun q hq => (List.mem_append.mp hq).elim (Ge q) (f4 q)⟩
noncomputable def bU (m : Nat) (o : Array (Option Nat)) : List (Nat × Nat) := (List.range (m + 1)).filterMap fun j => (o.getD j none).map (j, ·)
theorem Gg {α : Type} {f g : Nat -> Option α} {j : Nat} {a : α} (h1 : f j = none) (h2 : g j = some a) (h3 : ∀ i, i ≠ j -> g i = f i) : ∀ n, j < n -> ((List.range n).filterMap g).Perm (a :: (List.range n).filterMap f)
 | 0, h => by omega
 | n + 1, h => by
  rw [List.range_succ, List.filterMap_append, List.filterMap_append]
  by_cases e : j = n
  ·subst e
   have e1 : (List.range j).filterMap g = (List.range j).filterMap f := by
    have : ∀ l : List Nat, (∀ i ∈ l, i ≠ j) -> l.filterMap g = l.filterMap f := fun l => by
     induction l with
     | nil => intro _; rfl
     | cons x l ih => intro hl; rw [List.filterMap_cons, List.filterMap_cons, h3 x (hl x List.mem_cons_self), ih fun i hi => hl i (List.mem_cons_of_mem _ hi)]
    exact this _ fun i hi => by have := List.mem_range.mp hi; omega
   rw [e1]
   rw [List.filterMap_cons, h2, List.filterMap_cons, h1]
   show (_ ++ [a]).Perm (a :: (_ ++ []))
   rw [List.append_nil]
   exact List.perm_append_comm (l₂ := [a])
  ·have e2 : [n].filterMap g = [n].filterMap f := by simp [List.filterMap_cons, h3 n (Ne.symm e)]
   rw [e2]
   exact (Gg h1 h2 h3 n (by omega)).append_right _
theorem zd {m : Nat} {o : Array (Option Nat)} {q : Nat} : q ∈ (bU m o).map (·.1) ↔ q <= m /\ o.getD q none ≠ none := by
 unfold bU
 simp only [List.mem_map, List.mem_filterMap, List.mem_range, Option.map_eq_some_iff]
 constructor
 ·rintro ⟨e, ⟨a, ha, k, hk, rfl⟩, rfl⟩
  exact ⟨by show a <= m; omega, by show o.getD a none ≠ none; rw [hk]; simp⟩
 ·rintro ⟨h1, h2⟩
  obtain ⟨k, hk⟩ := Option.ne_none_iff_exists'.mp h2
  exact ⟨(q, k), ⟨q, by omega, k, hk, rfl⟩, rfl⟩
theorem Nk (m : Nat) (o : Array (Option Nat)) : gH ((bU m o).map (·.1)) := by
 unfold gH bU
 rw [List.pairwise_map, List.pairwise_filterMap]
 refine List.pairwise_lt_range.imp fun {a b} cM x hx y hy => ?_
 simp only [Option.map_eq_some_iff] at hx hy
 obtain ⟨_, _, rfl⟩ := hx
 obtain ⟨_, _, rfl⟩ := hy
 exact cM
structure Own (m : Nat) (o : Array (Option Nat)) (hs : List Int) : Prop where
 sz : o.size = m + 1
 pm : ((bU m o).map (·.2)).Perm (List.range hs.length)
 on : ∀ e ∈ bU m o, ∃ h, hs[e.2]? = some h /\ gM m h ((bU m o).map (·.1)) e.1
theorem Own.step {m : Nat} {o : Array (Option Nat)} {hs : List Int} (hm : fT m) (k : Own m o hs) (hn : hs.length <= m) (h : Int) :
 ∃ j, SetTable.layClean.free m o (SetTable.turns m) (SetTable.bits h % (m + 1)) (SetTable.bits h) = some j /\ Own m (o.setIfInBounds j (some hs.length)) (hs ++ [h]) := by
 have hlen : ((bU m o).map (·.1)).length = hs.length := by have := k.pm.length_eq; simpa using this
 have ze : ∀ q, q <= m -> o.getD q (some 0) = o.getD q none := fun q hq => by simp [Array.getD, show q < o.size from by rw [k.sz]; omega]
 obtain ⟨j0, ⟨l0, r0, g1, g2, g3⟩, g4, g5⟩ := F7 hm h (occ := (bU m o).map (·.1)) (by omega)
 have Nl : o.getD j0 (some 0) = none := by
  rw [ze j0 g5]
  exact Classical.byContradiction fun hc => g4 (zd.mpr ⟨g5, hc⟩)
 obtain ⟨j, l, r, f1, f2, f3, f4⟩ := Gb m o (SetTable.turns m) (SetTable.bits h % (m + 1)) (SetTable.bits h) (Nat.le_of_lt_succ (Nat.mod_lt _ (by omega))) ⟨j0, by show j0 ∈ road m h; rw [g1]; simp, Nl⟩
 have Nm : j <= m := uo (h := h) (by show j ∈ cA _ _ _ _; rw [f2]; simp)
 have Nn : ∀ q ∈ l, q <= m := fun q hq => uo (h := h) (by show q ∈ cA _ _ _ _; rw [f2]; simp [hq])
 have Np : o.getD j none = none := by rw [<- ze j Nm]; exact f3
 refine ⟨j, f1, ?_⟩
 have Nq : j < o.size := by rw [k.sz]; omega
 have gj : (o.setIfInBounds j (some hs.length)).getD j none = some hs.length := by simp [Array.getD, Nq]
 have gi : ∀ i, i ≠ j -> (o.setIfInBounds j (some hs.length)).getD i none = o.getD i none := fun i hi => by
  simp only [Array.getD_eq_getD_getElem?]
  rw [Array.getElem?_setIfInBounds_ne (Ne.symm hi)]
 have hp : (bU m (o.setIfInBounds j (some hs.length))).Perm ((j, hs.length) :: bU m o) := by
  unfold bU
  exact Gg (j := j) (a := (j, hs.length)) (by simp only [Np, Option.map_none]) (by simp only [gj, Option.map_some]) (fun i hi => by simp only [gi i hi]) (m + 1) (by omega)
 have mem : ∀ q ∈ (bU m o).map (·.1), q ∈ (bU m (o.setIfInBounds j (some hs.length))).map (·.1) := fun q hq => (hp.map (·.1)).mem_iff.mpr (List.mem_cons_of_mem _ hq)
 refine ⟨by simp [k.sz], ?_, fun e he => ?_⟩
 ·refine (hp.map (·.2)).trans ?_
  simp only [List.map_cons, List.length_append, List.length_cons, List.length_nil, Nat.zero_add, List.range_succ]
  exact (List.Perm.cons _ k.pm).trans (List.perm_append_comm (l₁ := [hs.length]))
 ·rcases List.mem_cons.mp (hp.mem_iff.mp he) with rfl | he
  ·refine ⟨h, by simp, ?_⟩
   obtain ⟨a, x, b, e1, e2, e3⟩ := y9 (fun x => x = j) (road m h) ⟨j, by show j ∈ cA _ _ _ _; rw [f2]; simp, rfl⟩
   subst e2
   refine ⟨a, b, e1, fun hx => e3 x hx rfl, fun q hq => mem q (zd.mpr ⟨uo (h := h) (by rw [e1]; simp [hq]), ?_⟩)⟩
   have Gh : road m h = l ++ x :: r := f2
   have Gi : q ∈ l := by
    rw [e1] at Gh
    rcases List.append_eq_append_iff.mp Gh with ⟨c, c1, c2⟩ | ⟨c, c1, c2⟩
    ·rw [c1]; exact List.mem_append_left _ hq
    ·cases c with
     | nil => simp at c1; rw [c1] at hq; exact hq
     | cons z c =>
      simp only [List.cons_append, List.cons.injEq] at c2
      exact absurd rfl (e3 x (by rw [c1, <- c2.1]; simp))
   rw [<- ze q (Nn q Gi)]
   exact f4 q Gi
  ·obtain ⟨h', q1, q2⟩ := k.on e he
   exact ⟨h', by rw [List.getElem?_append_left (List.getElem?_eq_some_iff.mp q1).1]; exact q1, q2.mono mem⟩
theorem Gj {m : Nat} (hm : fT m) : ∀ (hs done : List Int) (o : Array (Option Nat)), Own m o done -> (done ++ hs).length <= m + 1 ->
 ∃ o', hs.foldl (fun (acc : Option (Array (Option Nat) × Nat)) h => do
  let (owner, k) <- acc
  let j <- SetTable.layClean.free m owner (SetTable.turns m) (SetTable.bits h % (m + 1)) (SetTable.bits h)
  pure (owner.setIfInBounds j (some k), k + 1)) (some (o, done.length)) = some (o', (done ++ hs).length) /\ Own m o' (done ++ hs)
 | [], done, o, k, _ => ⟨o, by simp, by simpa using k⟩
 | h :: hs, done, o, k, hn => by
  obtain ⟨j, e, k'⟩ := k.step hm (by simp at hn; omega) h
  obtain ⟨o', e', Nr⟩ := Gj hm hs (done ++ [h]) _ k' (by simpa using hn)
  refine ⟨o', ?_, by simpa using Nr⟩
  rw [List.foldl_cons]
  simp only [Option.bind_eq_bind, Option.bind_some, e, Option.pure_def]
  simpa using e'
theorem Nt (m : Nat) : Own m (Array.replicate (m + 1) none) [] := by
 have e : bU m (Array.replicate (m + 1) none) = [] := by
  unfold bU
  rw [List.filterMap_eq_nil_iff]
  intro a ha
  have := List.mem_range.mp ha
  simp [Array.getD, this]
 exact ⟨by simp, by rw [e]; exact .nil, fun x hx => by rw [e] at hx; cases hx⟩
theorem Nu {m : Nat} (hm : fT m) (hs : List Int) (hn : hs.length <= m) : ∃ o, SetTable.layClean m hs.toArray = some o /\ Own m o hs := by
 obtain ⟨o, e, k⟩ := Gj hm hs [] _ (Nt m) (by simp; omega)
 refine ⟨o, ?_, k⟩
 unfold SetTable.layClean
 rw [<- Array.foldl_toList]
 simp only [List.length_nil, List.nil_append] at e
 exact congrArg (Option.map (·.1)) e
theorem Nv {m : Nat} (hm : fT m) (L : List (Nat × Int × β)) (d : Nat × Int × β) (hn : L.length <= m) (fin mv : Nat) (led plain : Bool) :
 ∃ t' order L', SetTable.laid m fin mv led plain (L.map (·.2.1)).toArray = some (t', order) /\ Tok t' L' /\ order.filterMap ((L.map (·.2)).toArray[·]?) = (L'.map (·.2)).toArray /\
  (L'.map (·.2)).Perm (L.map (·.2)) /\ t'.mask = m /\ t'.led = led /\ t'.plain = plain := by
 obtain ⟨o, e, k⟩ := Nu hm (L.map (·.2.1)) (by simpa using hn)
 have aR : ∀ e ∈ bU m o, e.2 < L.length := fun e he => by
  have := k.pm.mem_iff.mp (List.mem_map.mpr ⟨e, he, rfl⟩)
  simpa using this
 have e1 : ((bU m o).map fun e => (e.1, (L.getD e.2 d).2)).map (·.1) = (bU m o).map (·.1) := by simp [List.map_map, Function.comp_def]
 have e2 : (((bU m o).map (·.2)).map fun i => (L.getD i d).2) = (((bU m o).map fun e => (e.1, (L.getD e.2 d).2)).map (·.2)) := by simp [List.map_map, Function.comp_def]
 have e3 : (List.range L.length).map (fun i => (L.getD i d).2) = L.map (·.2) := by
  refine List.ext_getElem (by simp) fun i h1 h2 => ?_
  have : i < L.length := by simpa using h1
  simp [List.getD, this]
 refine ⟨_, _, (bU m o).map fun e => (e.1, (L.getD e.2 d).2), by unfold SetTable.laid; rw [e]; rfl, ⟨?_, rfl, ?_, fun x hx => ?_, hm, ?_, fun x hx => ?_⟩, ?_, ?_, rfl, rfl, rfl⟩
 ·show ((bU m o).map (·.1)).toArray = _
  rw [e1]
 ·rw [e1]; exact Nk m o
 ·obtain ⟨y, hy, rfl⟩ := List.mem_map.mp hx
  exact (zd.mp (List.mem_map.mpr ⟨y, hy, rfl⟩)).1
 ·have := k.pm.length_eq
  simp at this ⊢
  omega
 ·obtain ⟨y, hy, rfl⟩ := List.mem_map.mp hx
  obtain ⟨h, q1, q2⟩ := k.on y hy
  rw [e1]
  have : (L.getD y.2 d).2.1 = h := by
   have hl := aR y hy
   simp [hl] at q1
   simp [List.getD, hl, q1]
  rw [this]; exact q2
 ·show ((bU m o).map (·.2)).toArray.filterMap _ = _
  rw [<- e2]
  apply Array.ext'
  simp only [Array.toList_filterMap, List.toList_toArray]
  have : ∀ l : List Nat, (∀ i ∈ l, i < L.length) -> l.filterMap (fun i => (L.map (·.2)).toArray[i]?) = l.map fun i => (L.getD i d).2 := fun l => by
   induction l with
   | nil => intro _; rfl
   | cons x l ih =>
    intro hl
    have hx := hl x List.mem_cons_self
    rw [List.filterMap_cons, ih fun i hi => hl i (List.mem_cons_of_mem _ hi)]
    simp [hx, List.getD]
  exact this _ fun i hi => by
   obtain ⟨y, hy, rfl⟩ := List.mem_map.mp hi
   exact aR y hy
 ·rw [<- e2, <- e3]
  have := k.pm
  rw [List.length_map] at this
  exact this.map _
end
end qt
namespace Gz
open PySem PySem.Spec PyProof.Rows L2
theorem Gk : Manifest.owners.lookup (String.ofList ['r', 'o', 't', 'a', 'r', 'e', 't', 'i', '_', 't', 'e', 's'].reverse) = some Manifest.sig_set_iterator := by kernel_rfl
theorem mz : Slot "set_iterator" "__next__" "set_iterator.__next__" :=
 .of (owner := "set_iterator") (n := "__next__") (by rw [typeLookup_type, builtinLookup_eq_fast]; kernel_rfl) (by decide +kernel) (by decide +kernel) (by decide +kernel)
  (by first | exact .inl (by decide +kernel) | exact .inr (by decide +kernel)) (by rw [isSubtype_type]; kernel_rfl)
theorem Gm : entryFor table "set_iterator.__next__" = some Builtin.«set_iterator.__next__» := entryFor_of_tree (by kernel_rfl)
theorem Gn (a : Value) : argsOk "set_iterator.__next__" ⟨[a], []⟩ := by
 unfold argsOk; rw [signature?_of (id := "set_iterator.__next__") (n := ['_', '_', 't', 'x', 'e', 'n', '_', '_']) (o := ['r', 'o', 't', 'a', 'r', 'e', 't', 'i', '_', 't', 'e', 's']) (by kernel_rfl) Gk]; kernel_rfl
theorem Nw : entryFor table "set.__iter__" = some Builtin.«frozenset.__iter__» :=
 entryFor_alias (id' := "frozenset.__iter__") (by kernel_rfl) (by first | rfl | decide +kernel) (by decide +kernel) (by kernel_rfl)
section
variable {prog : Program} {w : World} {A : Around} {E : Value -> Shared -> Prop} {s : Shared} {d I : Addr} {ep : Nat} {t : SetTable}
theorem Nx {Q : Bool -> Shared -> Prop} (hT : s.TypeIs (.ref d) "set") (q : Q false s) : wpAny (model prog w) A (Builtin.List.listLengthHint (.ref d)) Q E s := by
 unfold Builtin.List.listLengthHint
 refine wpAny_bind (wpAny_specialOf hT PySem.F.slot_set_len.lookup ?_)
 generalize hid : ("set.__len__" : String) = Ny
 wp_delta
 rw [show splitId Ny = some ("set", "__len__") from by subst hid; decide +kernel]
 subst hid
 refine wpAny_bind (wpAny_isInstance (T := "set") (b := true) hT (by rw [isSubtype_type]; kernel_rfl) ?_)
 refine wpAny_ite_split (fun cM => absurd cM (by decide)) (fun _ => ?_)
 refine wpAny_ite_split (fun _ => ?_) (fun cM => absurd (by decide +kernel) cM)
 refine wpAny_bind (wpAny_typeOf hT ?_)
 exact wpAny_pure q
end
section
variable {X : Cx}
theorem Nz : bootBuiltins "set" = some (.type "set") := by decide +kernel
end
end Gz
namespace Gz
open PySem PySem.Spec PyProof.Rows L2 qt
section
variable {prog : Program} {w : World} {A : Around} {E : Value -> Shared -> Prop} {s : Shared}
noncomputable abbrev tK (prog : Program) (w : World) : HeapKind prog w (List Int) := tupleKind (intKind prog w)
noncomputable def bq (prog : Program) (w : World) (k : List Int) : Int := (tK prog w).hash k
noncomputable abbrev gN (prog : Program) (w : World) (m : List Int × Addr) : Int × Value := (bq prog w m.1, .ref m.2)
noncomputable def gO (prog : Program) (w : World) (h : Heap) (S : Addr) (M : List (List Int × Addr)) (led : Bool) : Prop :=
 ∃ o ep t L, h.get? S = some o /\ o.cls = .type "set" /\ o.data = .set (L.map (·.2)).toArray ep t /\ Tok t L /\ t.led = led /\ t.plain = true /\ L.length * 5 < t.mask * 3 /\ L.map (·.2) = M.map (gN prog w)
theorem fits_of {β : Type} {t : SetTable} {L : List (Nat × Int × β)} (k : Tok t L) : t.fits (L.map (·.2)).toArray.size = true := by
 unfold SetTable.fits SetTable.fill
 rw [k.pl, k.du]
 have := k.rm
 simp
 omega
theorem ints_of {k : List Int} {vs : List Value} (h : PySem.ItemsAre (intKind prog w) k vs) : ∀ v ∈ vs, ∃ n t, v = Value.int n t := by
 induction h with
 | nil => intro v hv; cases hv
 | @cons k v' ks vs h1 _ ih =>
  intro v hv
  rcases List.mem_cons.mp hv with rfl | hv
  ·obtain ⟨t, e⟩ := Value.isInt_shape h1
   exact ⟨k, t, e⟩
  ·exact ih v hv
theorem NA {k : List Int} {a : Addr} {Q : Bool -> Shared -> Prop} (hk : (tK prog w).is s.heap k a) (q : Q true s) : wpAny (model prog w) A (hashByValue 8 (.ref a)) Q E s := by
 obtain ⟨o, af, n, h1, h2, h3, h4⟩ := hk
 unfold hashByValue
 refine wpAny_bind (wpAny_specialOf ⟨o, h1, h2⟩ PySem.F.slot_tuple_hash.lookup ?_)
 show wpAny _ _ (seqItems? (.ref a) >>= _) _ _ _
 refine wpAny_bind (wpAny_seqItems h1 h3 ?_)
 refine wpAny_bind ?_
 show wpAny _ _ (forIn af _ _) _ _ s
 rw [<- Array.forIn_toList]
 refine wpAny_forIn_list _ (fun rest r s' => r.1 = none /\ s' = s /\ ∀ v ∈ rest, ∃ n t, v = Value.int n t) _ ?_ ?_ _ _ ⟨rfl, rfl, ints_of h4⟩
 ·rintro v rest r s' ⟨hr, rfl, hall⟩
  obtain ⟨m, tt, rfl⟩ := hall v List.mem_cons_self
  refine wpAny_bind (wpAny_pure ?_)
  simp only [Bool.not_true, Bool.false_eq_true, if_false]
  exact wpAny_pure ⟨rfl, rfl, fun u ki => hall u (List.mem_cons_of_mem _ ki)⟩
 ·rintro ⟨r1, r2⟩ s' ⟨hr, rfl, _⟩
  simp only at hr
  subst hr
  exact wpAny_pure q
theorem Gp {k : List Int} {a : Addr} {Q : Bool -> Shared -> Prop} (hk : (tK prog w).is s.heap k a) (q : Q false s) : wpAny (model prog w) A (ofAClassStatement 8 (.ref a)) Q E s := by
 obtain ⟨o, af, n, h1, h2, h3, h4⟩ := hk
 unfold ofAClassStatement
 refine wpAny_bind (wpAny_typeOf (T := "tuple") ⟨o, h1, h2⟩ ?_)
 show wpAny _ _ (pure true >>= _) _ _ _
 refine wpAny_bind (wpAny_pure ?_)
 simp only [Bool.not_true, Bool.false_eq_true, if_false]
 refine wpAny_bind (wpAny_seqItems h1 h3 ?_)
 dsimp only
 refine wpAny_bind ?_
 show wpAny _ _ (forIn af _ _) _ _ s
 rw [<- Array.forIn_toList]
 refine wpAny_forIn_list _ (fun rest r s' => r.1 = none /\ s' = s /\ ∀ v ∈ rest, ∃ n t, v = Value.int n t) _ ?_ ?_ _ _ ⟨rfl, rfl, ints_of h4⟩
 ·rintro v rest r s' ⟨hr, rfl, hall⟩
  obtain ⟨m, tt, rfl⟩ := hall v List.mem_cons_self
  refine wpAny_bind (wpAny_pure ?_)
  simp only [Bool.false_eq_true, if_false]
  exact wpAny_pure ⟨rfl, rfl, fun u ki => hall u (List.mem_cons_of_mem _ ki)⟩
 ·rintro ⟨r1, r2⟩ s' ⟨hr, rfl, _⟩
  simp only at hr
  subst hr
  exact wpAny_pure q
theorem NB {k : List Int} {a : Addr} {ys : List Value} {Q : Bool -> Shared -> Prop} (hk : (tK prog w).is s.heap k a) (hy : ∀ y ∈ ys, ∃ k' b, y = .ref b /\ (tK prog w).is s.heap k' b) (q : Q false s) :
 wpAny (model prog w) A (searchCouldBeSeen (.ref a) ys) Q E s := by
 unfold searchCouldBeSeen
 refine wpAny_bind ?_
 refine wpAny_forIn_list _ (fun rest r s' => r.1 = none /\ s' = s /\ ∀ y ∈ rest, ∃ k' b, y = .ref b /\ (tK prog w).is s.heap k' b) _ ?_ ?_ _ _ ⟨rfl, rfl, hy⟩
 ·rintro v rest r s' ⟨hr, rfl, hall⟩
  obtain ⟨k', b, rfl, hb⟩ := hall v List.mem_cons_self
  have fin : ∀ u ∈ rest, ∃ k' b, u = .ref b /\ (tK prog w).is s'.heap k' b := fun u ki => hall u (List.mem_cons_of_mem _ ki)
  refine wpAny_ite_split (fun _ => wpAny_pure ⟨rfl, rfl, fin⟩) (fun _ => ?_)
  refine wpAny_bind ((tK prog w).quiet hk ?_)
  simp only [Bool.not_true, Bool.false_eq_true, if_false]
  refine wpAny_bind ((tK prog w).quiet hb ?_)
  simp only [Bool.not_true, Bool.false_eq_true, if_false]
  refine wpAny_bind (Gp hk ?_)
  simp only [Bool.false_eq_true, if_false]
  refine wpAny_bind (Gp hb ?_)
  simp only [Bool.false_eq_true, if_false]
  exact wpAny_pure ⟨rfl, rfl, fin⟩
 ·rintro ⟨r1, r2⟩ s' ⟨hr, rfl, _⟩
  simp only at hr
  subst hr
  exact wpAny_pure q
theorem NC {S a : Addr} {k : List Int} {M : List (List Int × Addr)} {Q : SetFound -> Shared -> Prop} (hu : A.units < cLine) {o : Obj} {ep : Nat} {t : SetTable} {L : List (Nat × Int × Value)}
 (g1 : s.heap.get? S = some o) (g3 : o.data = .set (L.map (·.2)).toArray ep t) (tk : Tok t L) (g7 : L.map (·.2) = M.map (gN prog w)) (hM : ∀ m ∈ M, (tK prog w).is s.heap m.1 m.2) (hk : (tK prog w).is s.heap k a)
 (iG : ∀ m ∈ M, bq prog w m.1 = bq prog w k -> m.1 = k) (cE : (M.map (·.1)).Nodup)
 (h0 : k ∈ M.map (·.1) -> Q (.there none) s)
 (h1 : k ∉ M.map (·.1) -> ∀ j, j ∉ L.map (·.1) -> j <= t.mask -> gM t.mask (bq prog w k) (L.map (·.1)) j -> Q (.free j false) s) :
 wpAny (model prog w) A (setSearch S (.ref a) (bq prog w k) (adding := true)) Q E s := by
 have gw : t.gaveWay = false := by
  unfold SetTable.gaveWay
  rcases tk.om with e | e | e <;> rw [e] <;> rfl
 have hf : ∀ (i : Nat) (e : Nat × Int × Value), L[i]? = some e -> ((((L.map (·.2)).toArray[i]?).map (·.1)).getD 0) = e.2.1 := fun i e he => by simp [he]
 have hlen : L.length = M.length := by have := congrArg List.length g7; simpa using this
 unfold setSearch setSearchFrom
 refine wpAny_bind (wpAny_setState_of g1 g3 (fits_of tk) ?_)
 simp only [gw, Bool.false_eq_true, if_false, Option.getD_none]
 generalize hF : t.probe _ (bq prog w k) (t.probeStart (bq prog w k)) = pr
 by_cases b9 : k ∈ M.map (·.1)
 ·obtain ⟨m, hm, rfl⟩ := List.mem_map.mp b9
  obtain ⟨i, hi, hie⟩ := List.getElem_of_mem hm
  have Gq : i < L.length := by omega
  have e2 : L[i].2 = gN prog w m := by
   have := congrArg (·[i]?) g7
   simp [hi, Gq, hie] at this
   exact this
  obtain ⟨j, i', nx, p1, p2⟩ := tk.hit hf (e := L[i]) (List.getElem_mem Gq) (fun e' iD hh => by
   obtain ⟨i2, kj, rfl⟩ := List.getElem_of_mem iD
   have ko : i2 < M.length := by omega
   have e3 : L[i2].2 = gN prog w M[i2] := by
    have := congrArg (·[i2]?) g7
    simp [kj, ko] at this
    exact this
   rw [e2, e3] at hh
   have zf := iG _ (List.getElem_mem ko) hh
   have : i2 = i := by
    refine (List.getElem_inj (h₀ := by simpa using ko) (h₁ := by simpa using hi) cE).mp ?_
    simp [zf, hie]
   subst this; rfl)
  rw [e2] at p1
  have zg : pr = some (.candidate j i' nx) := hF.symm.trans p1
  subst zg
  have e4 : (L.map (·.2)).toArray[i']? = some (gN prog w m) := by simp [p2, e2]
  dsimp only
  have fin : ∀ y ∈ ((L.map (·.2)).toArray.filter (fun x => x.fst == bq prog w m.1)).toList.map (fun x => x.snd), ∃ k' b, y = .ref b /\ (tK prog w).is s.heap k' b := fun y hy => by
   obtain ⟨e, he, rfl⟩ := List.mem_map.mp hy
   have iD : e ∈ L.map (·.2) := by
    have := Array.mem_toList_iff.mp he
    have := (Array.mem_filter.mp this).1
    simpa using this
   rw [g7] at iD
   obtain ⟨m', gE, rfl⟩ := List.mem_map.mp iD
   exact ⟨m'.1, m'.2, rfl, hM m' gE⟩
  have jp : ∀ (f : Sem SetFound) , (wpAny (model prog w) A f Q E s) -> wpAny (model prog w) A (if (!t.led) = true then do
   let r <- searchCouldBeSeen (Value.ref a) (((L.map (·.2)).toArray.filter (fun x => x.fst == bq prog w m.1)).toList.map (fun x => x.snd))
   if r = true then do
    let _ <- (unsupported "set:the-search-would-show-the-table" : Sem PUnit)
    f
   else f
   else f) Q E s := fun f hf => by
   refine wpAny_ite_split (fun _ => wpAny_bind (NB hk fin ?_)) (fun _ => hf)
   simp only [Bool.false_eq_true, if_false]
   exact hf
  refine jp _ ?_
  simp only [e4]
  refine wpAny_bind (wpAny_holding ((tK prog w).eqBool hu (hM m hm) hk ?_))
  refine wpAny_bind (wpAny_setState_of g1 g3 (fits_of tk) ?_)
  simp only [decide_true, Bool.and_true, if_true]
  exact wpAny_pure (h0 b9)
 ·obtain ⟨j, p1, p2, p3, p4⟩ := tk.miss hf (h := bq prog w k) (fun e' iD hh => by
   obtain ⟨i2, kj, rfl⟩ := List.getElem_of_mem iD
   have ko : i2 < M.length := by omega
   have e3 : L[i2].2 = gN prog w M[i2] := by
    have := congrArg (·[i2]?) g7
    simp [kj, ko] at this
    exact this
   rw [e3] at hh
   exact b9 (List.mem_map.mpr ⟨_, List.getElem_mem ko, iG _ (List.getElem_mem ko) hh⟩))
  have zg : pr = some (.empty j none) := hF.symm.trans p1
  subst zg
  exact wpAny_pure (h1 b9 j p2 p3 p4)
theorem Gr {h : Heap} {S : Addr} {o : Obj} {es es' : Array (Int × Value)} {ep : Nat} {t t' : SetTable} (g1 : h.get? S = some o) (g3 : o.data = .set es ep t) :
 (h.update S (Obj.putSet es' t')).get? S = some { o with data := .set es' (ep + 1) t' } := by
 have := Heap.get?_update_self (Obj.putSet es' t') g1 (by rw [putSet_of es' t' g3]; rfl)
 rw [putSet_of es' t' g3] at this
 exact this
theorem ND {n m : Nat} (hm : fT m) (hn : n < 77) (h1 : (n - 1) * 5 < m * 3) (h2 : n * 5 ≥ m * 3) : ∃ m', SetTable.sizeAbove (SetTable.grown n) - 1 = m' /\ fT m' /\ n <= m' /\ n * 5 < m' * 3 := by
 rcases hm with rfl | rfl | rfl
 ·obtain rfl : n = 5 := by omega
  exact ⟨31, by decide, .inr (.inl rfl), by omega, by omega⟩
 ·obtain rfl : n = 19 := by omega
  exact ⟨127, by decide, .inr (.inr rfl), by omega, by omega⟩
 ·omega
theorem zh {α β : Type} {f : α -> β} : ∀ {xs : List α} {l : List β}, l.Perm (xs.map f) -> ∃ ys : List α, l = ys.map f /\ ys.Perm xs := by
 intro xs l h
 generalize hz : xs.map f = z at h
 induction h generalizing xs with
 | nil => exact ⟨[], rfl, by cases xs with | nil => exact .nil | cons => cases hz⟩
 | @cons a l1 l2 p ih =>
  cases xs with
  | nil => cases hz
  | cons x xs =>
   obtain ⟨e1, e2⟩ := List.cons.inj hz
   obtain ⟨ys, rfl, q⟩ := ih e2
   exact ⟨x :: ys, by rw [<- e1]; rfl, q.cons x⟩
 | swap a b l =>
  cases xs with
  | nil => cases hz
  | cons x xs =>
   cases xs with
   | nil => simp at hz
   | cons y xs =>
    simp only [List.map_cons, List.cons.injEq] at hz
    obtain ⟨e1, e2, e3⟩ := hz
    exact ⟨y :: x :: xs, by simp [e1, e2, e3], .swap x y xs⟩
 | trans p q NF NG =>
  obtain ⟨ys, e, r⟩ := NG hz
  obtain ⟨zs, e', r'⟩ := NF e.symm
  exact ⟨zs, e', r'.trans r⟩
theorem NH {S a : Addr} {k : List Int} {M : List (List Int × Addr)} {led : Bool} {Q : Bool -> Shared -> Prop} (hu : A.units < cLine) (hS : gO prog w s.heap S M led) (hM : ∀ m ∈ M, (tK prog w).is s.heap m.1 m.2) (hk : (tK prog w).is s.heap k a)
 (iG : ∀ m ∈ M, bq prog w m.1 = bq prog w k -> m.1 = k) (cE : (M.map (·.1)).Nodup) (hlen : M.length < 63)
 (h0 : k ∈ M.map (·.1) -> Q false s)
 (h1 : k ∉ M.map (·.1) -> ∀ h' M', Heap.SameBut S s.heap h' -> gO prog w h' S M' led -> M'.Perm ((k, a) :: M) -> Q true { s with heap := h' }) :
 wpAny (model prog w) A (setAddHashed S (.ref a) (bq prog w k)) Q E s := by
 obtain ⟨o, ep, t, L, g1, g2, g3, tk, g4, g5, g6, g7⟩ := hS
 have W5 : L.length = M.length := by have := congrArg List.length g7; simpa using this
 unfold setAddHashed setAddHashedIn
 refine wpAny_holding (wpAny_bind (wpAny_setState_of g1 g3 (fits_of tk) ?_))
 dsimp only
 rw [show byScan (.ref a) (L.map (·.2)).toArray = false from rfl]
 simp only [Bool.false_eq_true, if_false]
 refine wpAny_bind (NC hu g1 g3 tk g7 hM hk iG cE (fun b9 => wpAny_pure (h0 b9)) fun b9 j j1 j2 j3 => ?_)
 dsimp only
 refine wpAny_bind (wpAny_setState_of g1 g3 (fits_of tk) ?_)
 obtain ⟨t', p, p1, p2, p3, p4, p5, p6, p7⟩ := tk.put (x := Value.ref a) j1 j2 j3 (by omega)
 simp only [p1, p6, g5, if_true]
 have uu := qu (L := L) p (j, bq prog w k, Value.ref a)
 refine wpAny_bind (NA hk ?_)
 simp only [if_true]
 rw [p3]
 have hsz : ((cD L p (j, bq prog w k, Value.ref a)).map (·.2)).toArray.size <= sizeLine := by
  have := uu.length_eq
  simp at this ⊢
  rw [this]
  exact Nat.le_trans (show _ <= 64 by omega) (by decide)
 refine wpAny_bind (wpAny_storeSet_of g1 g3 ?_ hsz)
 have gS := Gr (es' := ((cD L p (j, bq prog w k, Value.ref a)).map (·.2)).toArray) (t' := t') g1 g3
 have Gs := Heap.SameBut.update s.heap S (Obj.putSet ((cD L p (j, bq prog w k, Value.ref a)).map (·.2)).toArray t')
 have bK : ((cD L p (j, bq prog w k, Value.ref a)).map (·.2)).Perm (((k, a) :: M).map (gN prog w)) := by
  refine (uu.map (·.2)).trans ?_
  simp only [List.map_cons, g7]
  exact .refl _
 have NI : t'.tooFull = decide ((L.length + 1) * 5 ≥ t.mask * 3) := by unfold SetTable.tooFull; rw [p7, p4]
 rw [NI]
 by_cases hfull : (L.length + 1) * 5 ≥ t.mask * 3
 ·simp only [hfull, decide_true, Bool.not_false, Bool.and_true, if_true]
  refine wpAny_bind ?_
  unfold setRelay
  refine wpAny_bind (wpAny_setState_of gS rfl (fits_of p2) ?_)
  dsimp only
  obtain ⟨m', q1, q2, q3, q4⟩ := ND (n := L.length + 1) (m := t.mask) tk.om (by omega) (by simpa using g6) hfull
  rw [show (L.map (·.2)).toArray.size + 1 = L.length + 1 from by simp]
  have hq : SetTable.sizeAbove (SetTable.grown (L.length + 1)) <= 128 := by rcases q2 with rfl | rfl | rfl <;> omega
  rw [if_neg (Nat.not_lt.mpr (Nat.le_trans hq (by decide)))]
  have NJ : (cD L p (j, bq prog w k, Value.ref a)).length = L.length + 1 := by simpa using uu.length_eq
  obtain ⟨t2, order, L2, r1, r2, r3, r4, r5, r6, r7⟩ := Nv q2 (cD L p (j, bq prog w k, Value.ref a)) (j, bq prog w k, Value.ref a) (by omega) t'.finger (t'.movedTo m') t'.led t'.plain
  have NK : t'.relaid (Array.map (fun x => x.fst) (List.map (fun x => x.snd) (cD L p (j, bq prog w k, Value.ref a))).toArray) (SetTable.grown (L.length + 1)) = some (t2, order) := by
   unfold SetTable.relaid
   rw [q1, <- r1]
   congr 1
   simp
  rw [NK]
  have dH : L2.length = L.length + 1 := by have := r4.length_eq; simp only [List.length_map] at this; omega
  refine wpAny_bind ?_
  show wpAny _ _ (if ((order.filterMap (fun i => (List.map (fun x => x.snd) (cD L p (j, bq prog w k, Value.ref a))).toArray[i]?)).size != (List.map (fun x => x.snd) (cD L p (j, bq prog w k, Value.ref a))).toArray.size) = true then _ else pure (order.filterMap (fun i => (List.map (fun x => x.snd) (cD L p (j, bq prog w k, Value.ref a))).toArray[i]?), t2)) _ _ _
  rw [r3]
  rw [if_neg (by simp [dH, NJ])]
  refine wpAny_pure ?_
  refine wpAny_storeSet_of gS rfl ?_ (by simp only [List.size_toArray, List.length_map]; rw [dH]; exact Nat.le_trans (show _ <= 64 by omega) (by decide))
  have NL := Gr (es' := (L2.map (·.2)).toArray) (t' := t2) gS rfl
  obtain ⟨M', e1, e2⟩ := zh (r4.trans bK)
  refine wpAny_pure (h1 b9 _ M' (Gs.trans (Heap.SameBut.update _ S _)) ⟨_, _, t2, L2, NL, g2, rfl, r2, r6.trans (p5.trans g4), r7.trans (p6.trans g5), ?_, e1⟩ e2)
  rw [dH, r5]
  exact q4
 ·simp only [hfull, decide_false, Bool.and_false, Bool.false_eq_true, if_false]
  obtain ⟨M', e1, e2⟩ := zh bK
  refine wpAny_pure (h1 b9 _ M' Gs ⟨_, _, t', _, gS, g2, rfl, p2, p5.trans g4, p6.trans g5, ?_, e1⟩ e2)
  rw [uu.length_eq, p4]
  simp
  omega
end
end Gz
namespace Gz
open PySem PySem.Spec PyProof.Rows L2 qt
noncomputable def qv (key : Nat -> List Int) (ad : Nat -> Addr) (i : Nat) (M : List (List Int × Addr)) : Prop :=
 (M.map (·.1)).Nodup /\ (∀ m ∈ M, ∃ j, j < i /\ m = (key j, ad j)) /\ (∀ j, j < i -> key j ∈ M.map (·.1)) /\ M.length <= i
noncomputable def kr (w : World) : Bool := !(w.params.followText "set-order")
theorem zi {prog : Program} {w : World} {h h' : Heap} {k : List Int} {a : Addr} (x : (tK prog w).is h k a) (e : ∀ o, h.get? a = some o -> h'.get? a = some o) : (tK prog w).is h' k a := by
 obtain ⟨o, af, n, h1, h2, h3, h4⟩ := x
 exact ⟨o, af, n, e o h1, h2, h3, h4⟩
section
variable {prog : Program} {w : World} {A : Around} {R : Result -> Shared -> Prop} {I : Addr} {fp wr : List Addr} {G : Array GenState -> Array GenState -> Prop} {n : Nat} {P : Nat -> Value -> Prop} {St : Nat -> Shared -> Prop}
theorem NM (W : WalksS prog w A.in1 I fp wr G n P St) (S : Addr) (fO : S ∉ fp) {key : Nat -> List Int} {ad : Nat -> Addr} {led : Bool} (NN : ∀ i v, P i v -> v = .ref (ad i)) (hu : A.in1.units < cLine)
 (Gu : ∀ i, i < n -> ad i ∉ S :: wr) (iG : ∀ i j, i < n -> j < n -> bq prog w (key i) = bq prog w (key j) -> key i = key j) (hn : n <= 63) :
 ∀ (k i : Nat) (s : Shared) (M : List (List Int × Addr)), n - i = k -> i <= n -> St i s -> (∀ j, j < n -> (tK prog w).is s.heap (key j) (ad j)) -> gO prog w s.heap S M led -> qv key ad i M ->
  (∀ s' M', Moved (S :: wr) G s s' -> gO prog w s'.heap S M' led -> qv key ad n M' -> R (.ok (.ret .none)) s') ->
  codeAny (model prog w) A (.builtin "set.update.loop" ⟨[.ref S, .ref I], []⟩) R s := by
 have Gv : S ∉ wr := fun h => fO (W.sub _ h)
 have iH : ∀ b ∈ wr, b ∈ S :: wr := fun b hb => List.mem_cons_of_mem _ hb
 intro k
 induction k with
 | zero =>
  intro i s M hk hi dF qw hS hM hR
  have b9 : i = n := by omega
  subst b9
  refine codeAny_builtin PyProof.Rows.F.entry_set_update_loop ?_
  rw [Around.under_plainId PyProof.Rows.F.plain_set_update_loop _]
  show wpAny _ A.in1 (pyNext (.ref I) >>= _) _ _ s
  refine wpAny_bind (W.done s _ _ dF fun s' hm => ?_)
  show wpAny _ A.in1 (ret Value.none) _ _ s'
  exact wpAny_pure (hR s' M (hm.mono iH) (by
   obtain ⟨o, ep, t, L, ho, rest⟩ := hS
   exact ⟨o, ep, t, L, hm.heap S _ Gv ho, rest⟩) hM)
 | succ k ih =>
  intro i s M hk hi dF qw hS hM hR
  have aR : i < n := by omega
  refine codeAny_builtin PyProof.Rows.F.entry_set_update_loop ?_
  rw [Around.under_plainId PyProof.Rows.F.plain_set_update_loop _]
  show wpAny _ A.in1 (pyNext (.ref I) >>= _) _ _ s
  refine wpAny_bind (W.item i s _ _ aR dF fun v s' hP NO hm => ?_)
  obtain rfl := NN i v hP
  have mB : gO prog w s'.heap S M led := by
   obtain ⟨o, ep, t, L, ho, rest⟩ := hS
   exact ⟨o, ep, t, L, hm.heap S _ Gv ho, rest⟩
  have uv : ∀ j, j < n -> (tK prog w).is s'.heap (key j) (ad j) := fun j hj => zi (qw j hj) fun o e => hm.heap _ o (fun hb => Gu j hj (iH _ hb)) e
  show wpAny _ A.in1 (holding [Value.ref (ad i)] (setAdd S (.ref (ad i))) >>= _) _ _ s'
  refine wpAny_bind (wpAny_holding ?_)
  unfold setAdd
  refine wpAny_holding ?_
  refine wpAny_bind ((tK prog w).pyHash (k := key i) hu (uv i aR) ?_)
  have go : ∀ (tk : Nat) (h' : Heap) (M' : List (List Int × Addr)) (b : Bool), s'.toks <= tk -> Heap.SameBut S s'.heap h' -> gO prog w h' S M' led -> qv key ad (i + 1) M' ->
   wpAny (model prog w) A.in1 (again (.builtin "set.update.loop" ⟨[.ref S, .ref I], []⟩)) (fun fin s' => match fin with | .done f => R (.ok f) s' | .again c' => c'.quiet = true /\ codeAny (model prog w) A c' R s') (fun e s' => R (.error e) s') { s' with heap := h', toks := tk } := by
   intro tk h' M' b o8 cN zj NP
   refine wpAny_pure ⟨plainId_quiet PyProof.Rows.F.plain_set_update_loop _, ih (i + 1) _ M' (by omega) aR (W.frame _ s' _ _ NO o8 fun b hb o e => ?_) (fun j hj => zi (uv j hj) fun o e => ?_) zj NP fun ph NQ NR NS NT => ?_⟩
   ·rw [cN.2 b (fun h : b = S => fO (by rw [<- h]; exact hb))]; exact e
   ·show h'.get? _ = _
    rw [cN.2 _ (fun h : ad j = S => Gu j hj (by rw [h]; exact List.mem_cons_self))]; exact e
   ·refine hR ph NQ (Moved.trans W.gtrans ((hm.mono iH).then_heap o8 fun b o hb e => ?_) NR) NS NT
    rw [cN.2 b (fun h : b = S => hb (by rw [h]; exact List.mem_cons_self))]; exact e
  refine NH (s := { s' with toks := s'.toks + (tK prog w).draws (key i) }) (M := M) hu mB (fun m hm => ?_) (uv i aR) (fun m hm he => ?_) hM.1 (by have := hM.2.2.2; omega) (fun b9 => ?_) (fun b9 h' M' cN zj bK => ?_)
  ·obtain ⟨j, hj, rfl⟩ := hM.2.1 m hm
   exact uv j (by omega)
  ·obtain ⟨j, hj, rfl⟩ := hM.2.1 m hm
   exact iG j i (by omega) aR he
  ·refine go _ s'.heap M false (Nat.le_add_right _ _) (Heap.SameBut.refl S s'.heap) mB ⟨hM.1, fun m hm => ?_, fun j hj => ?_, by have := hM.2.2.2; omega⟩
   ·obtain ⟨j, hj, e⟩ := hM.2.1 m hm
    exact ⟨j, by omega, e⟩
   ·by_cases e : j = i
    ·rw [e]; exact b9
    ·exact hM.2.2.1 j (by omega)
  ·refine go _ h' M' true (Nat.le_add_right _ _) cN zj ⟨((bK.map (·.1)).nodup_iff).mpr (List.nodup_cons.mpr ⟨b9, hM.1⟩), fun m hm => ?_, fun j hj => ?_, by have := bK.length_eq; have := hM.2.2.2; simp at *; omega⟩
   ·rcases List.mem_cons.mp (bK.mem_iff.mp hm) with rfl | hm
    ·exact ⟨i, by omega, rfl⟩
    ·obtain ⟨j, hj, e⟩ := hM.2.1 m hm
     exact ⟨j, by omega, e⟩
   ·refine ((bK.map (·.1)).mem_iff).mpr ?_
    by_cases e : j = i
    ·rw [e]; exact List.mem_cons_self
    ·exact List.mem_cons_of_mem _ (hM.2.2.1 j (by omega))
end
section
variable {prog : Program} {w : World} {A : Around} {E : Value -> Shared -> Prop} {s : Shared}
noncomputable abbrev fq (w : World) : Obj := { cls := .type "set", dict := none, data := .set #[] 0 (.fresh 0 0 (kr w)) }
theorem NU (a : Value) {Q₁ : Value -> Shared -> Prop} (h : Q₁ (.ref s.heap.objs.size) { s with heap := s.heap.push (fq w) }) :
 codeAny (model prog w) A (.call (.builtin "set.__new__") ⟨[.type "set", a], []⟩) (wants Q₁ E) s := by
 refine codeAny_of_tree (show wpAny _ A.in1 (do checkBuiltinCall "set.__new__" ⟨[.type "set", a], []⟩; again (.builtin "set.__new__" ⟨[.type "set", a], []⟩)) _ _ s from ?_)
 refine wpAny_bind (wpAny_of_eq (PySem.F.newCall_set_1 a) (wpAny_pure ⟨plainId_quiet PySem.F.plain_set_new _, codeAny_builtin PySem.F.entry_set_new ?_⟩)); rw [Around.under_plainId PySem.F.plain_set_new _]
 unfold Builtin.«set.__new__» Builtin.Frozenset.newClass; have iH := PySem.sub_set_self
 obtain ⟨hp, g, d, tk, os⟩ := s
 dsimp only; wp_walk
 refine wpAny_askSetting (wpAny_pure ?_); dsimp only; simp only [newObj]
 exact wpAny_bind (wpAny_alloc (wpAny_pure (wpAny_pure h)))
theorem NV (prog : Program) {h : Heap} {S : Addr} (e : h.get? S = some (fq w)) : gO prog w h S [] (kr w) :=
 ⟨_, 0, _, ([] : List (Nat × Int × Value)), e, rfl, rfl, ⟨rfl, rfl, List.Pairwise.nil, (fun _ hx => nomatch hx), Or.inl rfl, Nat.zero_le _, (fun _ hx => nomatch hx)⟩, rfl, rfl, (show 0 * 5 < 7 * 3 by decide), rfl⟩
theorem NW {l : Addr} {items : Array Value} {Q : Value -> Shared -> Prop} {key : Nat -> List Int} {ad : Nat -> Addr} (hh : A.handled = none) (hl : s.heap.IsList l items) (hu : A.units + 64 < cLine) (hn : items.size <= 63)
 (hit : ∀ (i : Nat) (v : Value), items[i]? = some v -> v = .ref (ad i)) (qw : ∀ j, j < items.size -> (tK prog w).is s.heap (key j) (ad j)) (iG : ∀ i j, i < items.size -> j < items.size -> bq prog w (key i) = bq prog w (key j) -> key i = key j)
 (h : ∀ (h' : Heap) (tk : Nat) (M : List (List Int × Addr)), gO prog w h' s.heap.objs.size M (kr w) -> qv key ad items.size M -> (∀ b o, b < s.heap.objs.size -> s.heap.get? b = some o -> h'.get? b = some o) -> Q (.ref s.heap.objs.size) { s with heap := h', toks := tk }) :
 wpAny (model prog w) A (call (.type "set") [.ref l]) Q E s := by
 obtain ⟨c, tl, hmro⟩ := PySem.F.called_set.mro; have W6 := PySem.F.called_set.made; have iH := PySem.F.called_set.sub
 refine wpAny_call (codeAny_of_tree (show wpAny _ _ (callAny (.type "set") _) _ _ _ from wpAny_pure ⟨Code.quiet_builtin _ (by decide +kernel), codeAny_builtin PySem.F.entry_type_call ?_⟩))
 rw [Around.under_plain (weight_type_call_type "set" [.ref l] []) rfl]; have h1 := PySem.F.called_set.notType; have h2 := PySem.F.called_set.canCreate
 have W7 := PySem.F.typeCall_set_1 (.ref l); repeat (any_goals (first | assumption | wp_step))
 refine codeAny_mono (NU (.ref l) (E := E) (Q₁ := fun obj s₁ => obj = .ref s.heap.objs.size /\ s₁ = { s with heap := s.heap.push (fq w) }) ⟨rfl, rfl⟩) fun r s₁ hr => ?_
 cases r with
 | error e => exact hr
 | ok fl =>
  cases fl with
  | ret obj =>
   obtain ⟨rfl, rfl⟩ := hr
   have gS : (s.heap.push (fq w)).get? s.heap.objs.size = some (fq w) := Heap.get?_push_size _ rfl
   have hT : Shared.TypeIs { s with heap := s.heap.push (fq w) } (.ref s.heap.objs.size) "set" := ⟨_, gS, rfl⟩
   have W8 := PySem.F.called_set.init.lookup; have W9 := PySem.F.called_set.init.bind (.ref s.heap.objs.size)
   repeat (any_goals (first | assumption | wp_step))
   refine codeAny_mono (codeAny_call_builtin (R := wants (fun r s₂ => r = .none /\ ∃ h' tk M, s₂ = { s with heap := h', toks := tk } /\ gO prog w h' s.heap.objs.size M (kr w) /\ qv key ad items.size M /\
    (∀ b o, b < s.heap.objs.size -> s.heap.get? b = some o -> h'.get? b = some o)) E) PySem.F.called_set.init.plain PySem.F.entry_set_init (check_set_init_1 hT ?_)) fun r₂ s₂ zk => ?_
   ·have NX : ∀ j, j < items.size -> ad j < s.heap.objs.size := fun j hj => let ⟨o, _, _, e, _⟩ := qw j hj; Heap.lt_size e
    have lt : l < s.heap.objs.size := let ⟨_, e, _⟩ := hl; Heap.lt_size e
    obtain ⟨ol, hol, dq, nl, hdl⟩ := id hl
    obtain ⟨ocls, odict, odata, oslots⟩ := ol
    obtain rfl : ocls = .type "list" := dq
    obtain rfl : odata = .seq items nl := hdl
    have NY : (s.heap.push (fq w)).get? l = some { cls := .type "list", dict := odict, data := .seq items nl, slots := oslots } := Heap.get?_push_of_some _ hol
    have Xa := PySem.F.sub_list_set; have Xb := PySem.F.sub_list_frozenset; have dJ : (Value.type "list" == Value.type "dict") = false := by decide
    have uw : (s.heap.push (fq w)).IsList l items := ⟨_, NY, rfl, nl, rfl⟩
    unfold Builtin.«set.__init__» noKeywords Builtin.Frozenset.updateFrom
    generalize NZ : pyIter = PI; wp_walk; subst NZ
    refine wpAny_pyIter_list uw (wpAny_bind (wpAny_runValue ?_))
    have N0 : A.in1.in1.in1.handled = none := by simp [hh]
    have ux : (s.heap.push (fq w)).objs.size = s.heap.objs.size + 1 := Heap.size_push _ _
    have lI : l ≠ (s.heap.push (fq w)).objs.size := by rw [ux]; exact Nat.ne_of_lt (Nat.lt_succ_of_lt lt)
    have SI : s.heap.objs.size ∉ [(s.heap.push (fq w)).objs.size, l] := by
     rw [ux]; simp only [List.mem_cons, List.not_mem_nil, or_false, not_or]
     exact ⟨Nat.ne_of_lt (Nat.lt_succ_self _), Nat.ne_of_gt lt⟩
    refine NM ((Walks.list N0 _ l lI items).toS) s.heap.objs.size SI (key := key) (ad := ad) (led := kr w) hit ?_ (fun i hi => ?_) iG hn (items.size - 0) 0 _ [] (by omega) (Nat.zero_le _)
     ⟨⟨_, Heap.get?_push_size _ rfl, rfl, rfl⟩, (uw.push _)⟩ (fun j hj => zi (qw j hj) fun o e => Heap.get?_push_of_some _ (Heap.get?_push_of_some _ e)) (NV prog (Heap.get?_push_of_some _ gS))
     ⟨List.nodup_nil, fun _ hx => (by cases hx), fun j hj => (by omega), Nat.zero_le _⟩ fun s' M hm mB hM => ?_
    ·exact Nat.lt_of_le_of_lt (show A.units + 1 + 1 + 1 <= A.units + 64 by omega) hu
    ·have := NX i hi
     rw [ux]
     simp only [List.mem_cons, List.not_mem_nil, or_false, not_or]
     exact ⟨Nat.ne_of_lt this, Nat.ne_of_lt (Nat.lt_succ_of_lt this)⟩
    ·obtain ⟨h', g', d', zm, lE⟩ := s'
     obtain rfl : g' = s.gens := hm.gens
     obtain rfl : d' = s.drawn := hm.drawn
     obtain rfl : lE = s.os := hm.os
     show wpAny _ _ _ _ _ _
     refine wpAny_pure (show wpAny _ _ (ret Value.none) _ _ _ from wpAny_pure ⟨rfl, h', zm, M, rfl, mB, hM, fun b o hb e => ?_⟩)
     refine hm.heap b o ?_ (Heap.get?_push_of_some _ (Heap.get?_push_of_some _ e))
     simp only [List.mem_cons, List.not_mem_nil, or_false, not_or, ux]
     exact ⟨Nat.ne_of_lt hb, Nat.ne_of_lt (Nat.lt_succ_of_lt hb)⟩
   ·cases r₂ with
    | error e => exact zk
    | ok N1 =>
     cases N1 with
     | ret r =>
      obtain ⟨rfl, h', tk, M, rfl, mB, hM, gD⟩ := zk
      repeat (any_goals (first | assumption | wp_step))
      exact h _ _ M mB hM gD
     | _ => exact zk.elim
  | _ => exact hr.elim
end
end Gz
namespace Gz
open PySem PySem.Spec PyProof.Rows L2 qt
theorem Gw : Slot "set_iterator" "__iter__" "set_iterator.__iter__" :=
 .of (owner := "set_iterator") (n := "__iter__") (by rw [typeLookup_type, builtinLookup_eq_fast]; kernel_rfl) (by decide +kernel) (by decide +kernel) (by decide +kernel)
  (by first | exact .inl (by decide +kernel) | exact .inr (by decide +kernel)) (by rw [isSubtype_type]; kernel_rfl)
theorem N2 : entryFor table "set_iterator.__iter__" = some Builtin.«dict_keyiterator.__iter__» :=
 entryFor_alias (id' := "dict_keyiterator.__iter__") (by kernel_rfl) (by first | rfl | decide +kernel) (by decide +kernel) (by kernel_rfl)
theorem N3 (a : Value) : argsOk "set_iterator.__iter__" ⟨[a], []⟩ := by
 unfold argsOk; rw [signature?_of (id := "set_iterator.__iter__") (n := ['_', '_', 'r', 'e', 't', 'i', '_', '_']) (o := ['r', 'o', 't', 'a', 'r', 'e', 't', 'i', '_', 't', 'e', 's']) (by kernel_rfl) Gk]; kernel_rfl
theorem Gx {α : Type} (f : Nat -> Nat) : ∀ (n k : Nat) (left : List α) (out : Array α), left.length = n -> (pickOrder.go f n k left out).toList.Perm (out.toList ++ left)
 | 0, k, left, out, h => by
  obtain rfl : left = [] := List.length_eq_zero_iff.mp h
  unfold pickOrder.go; simp
 | n + 1, k, left, out, h => by
  have hl : f k % left.length < left.length := Nat.mod_lt _ (by omega)
  unfold pickOrder.go
  rw [List.getElem?_eq_getElem hl]
  refine (Gx f n (k + 1) _ _ (by rw [List.length_eraseIdx_of_lt hl]; omega)).trans ?_
  rw [Array.toList_push, List.append_assoc]
  refine List.Perm.append_left _ ?_
  have := List.perm_middle (a := left[f k % left.length]) (l₁ := left.take (f k % left.length)) (l₂ := left.drop (f k % left.length + 1))
  rw [List.eraseIdx_eq_take_drop_succ]
  refine .trans ?_ (.of_eq (List.take_append_drop (f k % left.length) left))
  rw [List.drop_eq_getElem_cons hl]
  exact this.symm
theorem N4 {α : Type} (f : Nat -> Nat) (xs : Array α) : (pickOrder f xs).toList.Perm xs.toList := by
 unfold pickOrder
 simpa using Gx f xs.size 0 xs.toList #[] (by simp)
section
variable {prog : Program} {w : World} {A : Around} {E : Value -> Shared -> Prop} {s : Shared} {S I : Addr} {o : Obj} {ep : Nat} {t : SetTable} {L : List (Nat × Int × Value)}
noncomputable def ft (w : World) (S : Addr) (ep : Nat) (es : Array (Int × Value)) : Array (Int × Value) := if w.params.followText "set-order" then pickOrder (w.params.setOrder S ep) es else es
theorem zo (w : World) (S : Addr) (ep : Nat) (es : Array (Int × Value)) : (ft w S ep es).toList.Perm es.toList := by
 unfold ft
 split
 ·exact N4 _ _
 ·exact .refl _
structure mC (w : World) (S : Addr) (o : Obj) (ep : Nat) (t : SetTable) (L : List (Nat × Int × Value)) : Prop where
 cls : o.cls = .type "set"
 dat : o.data = .set (L.map (·.2)).toArray ep t
 tok : Tok t L
 led : t.led = kr w
 pln : t.plain = true
theorem N5 {Q : Bool -> Shared -> Prop} (x : mC w S o ep t L) (h : s.heap.get? S = some o) (q : Q false s) : wpAny (model prog w) A (setDrawn S) Q E s := by
 unfold setDrawn setsByText
 refine wpAny_bind (wpAny_setState_of h x.dat (fits_of x.tok) ?_)
 dsimp only
 refine wpAny_bind (wpAny_bind (wpAny_askSetting (wpAny_pure (wpAny_pure ?_))))
 refine cast (congrArg (fun b => Q b s) ?_) q
 symm
 rw [Bool.and_eq_false_iff]
 right
 show (!t.plain && _) = false
 rw [x.pln]; rfl
noncomputable abbrev zq (S : Addr) (n ep : Nat) (sl i : Int) : Obj := { cls := .type "set_iterator", data := .fields #[rawInt sl, rawInt i, .ref S, rawInt n, rawInt ep] }
theorem N6 {Q : Value -> Shared -> Prop} (x : mC w S o ep t L) (h : s.heap.get? S = some o) (hQ : Q (.ref s.heap.objs.size) { s with heap := s.heap.push (zq S L.length ep 0 0) }) : wpAny (model prog w) A (pyIter (.ref S)) Q E s := by
 have hT : s.TypeIs (.ref S) "set" := ⟨o, h, x.cls⟩
 refine wpAny_pyIter_slot hT F.slot_set_iter (wpAny_call_entry F.slot_set_iter hT Nw ?_ (F.args_set_iter_1 _))
 unfold Builtin.«frozenset.__iter__»
 refine wpAny_bind (m := Builtin.Frozenset.slot0 _ _) (wpAny_pure ?_)
 refine wpAny_bind (m := Builtin.Frozenset.sizeOf _) (wpAny_bind (wpAny_setEntries_of h x.dat (fits_of x.tok) (wpAny_pure ?_)))
 refine wpAny_bind (N5 x h ?_)
 simp only [Bool.false_eq_true, if_false]
 refine wpAny_bind (wpAny_pure ?_)
 refine wpAny_bind (wpAny_setEpoch_of h x.dat (fits_of x.tok) ?_)
 refine wpAny_bind (wpAny_newObj_type (wpAny_pure ⟨_, rfl, "set_iterator", _, ⟨_, Heap.get?_push_size _ rfl, rfl⟩, mz.lookup, ?_⟩))
 refine cast (congrArg (fun b => Q _ { s with heap := s.heap.push b }) ?_) hQ
 simp [zq]
theorem Gy {sl i : Nat} {Q : Option (Value × Nat) -> Shared -> Prop} (x : mC w S o ep t L) (h : s.heap.get? S = some o) (hb : w.params.followText "set-order" = false -> SetTable.below t.place sl = i)
 (q : ∀ cH, (w.params.followText "set-order" = false -> i < L.length -> SetTable.below t.place cH = i + 1) -> Q (((ft w S ep (L.map (·.2)).toArray)[i]?).map fun e => (e.2, cH)) s) : wpAny (model prog w) A (setNext S sl i ep) Q E s := by
 unfold setNext setsByText
 refine wpAny_bind (wpAny_setState_of h x.dat (fits_of x.tok) ?_)
 dsimp only
 refine wpAny_bind (wpAny_bind (wpAny_askSetting (wpAny_pure ?_)))
 unfold ft at q
 cases hf : w.params.followText "set-order" with
 | true =>
  simp only [hf, if_true] at q
  rw [if_pos (show (model prog w).w.params.followText "set-order" = true from hf), if_neg (by simp)]
  unfold setWalk setsByText
  refine wpAny_bind (wpAny_bind (wpAny_setState_of h x.dat (fits_of x.tok) ?_))
  refine wpAny_bind (wpAny_bind (wpAny_askSetting (wpAny_pure ?_)))
  rw [if_pos (show (model prog w).w.params.followText "set-order" = true from hf)]
  exact wpAny_bind (wpAny_askSetting (wpAny_pure (wpAny_pure (q sl (fun hz => nomatch hz)))))
 | false =>
  simp only [hf, Bool.false_eq_true, if_false] at q
  rw [if_neg (show ¬ (model prog w).w.params.followText "set-order" = true from by rw [show (model prog w).w.params.followText "set-order" = false from hf]; decide)]
  refine wpAny_ite_split (fun z => absurd (show (!t.plain && _) = true from z) (by rw [x.pln]; simp)) (fun _ => ?_)
  have hl : t.led = true := by rw [x.led]; unfold kr; rw [hf]; rfl
  refine wpAny_bind ?_
  show wpAny _ _ (if (!t.led && !(L.map (·.2)).toArray.isEmpty) = true then _ else pure _) _ _ _
  rw [if_neg (by rw [hl]; simp)]
  refine wpAny_pure (wpAny_pure ?_)
  rw [hb hf]
  by_cases hi : i < L.length
  ·have e1 : (L.map (·.2)).toArray[i]? = some L[i].2 := by simp [hi]
   have e2 : t.place[i]? = some L[i].1 := by rw [x.tok.pl]; simp [hi]
   have := q (L[i].1 + 1) fun _ _ => by rw [x.tok.pl]; exact Ni x.tok.ri (by simp [hi])
   rw [e1] at this ⊢
   rw [e2]
   exact this
  ·have e1 : (L.map (·.2)).toArray[i]? = none := by simp; omega
   have := q 0 fun _ hz => absurd hz hi
   rw [e1] at this ⊢
   exact this
theorem N7 (hh : A.handled = none) (x : mC w S o ep t L) (dJ : S ≠ I) : Walks prog w A I [I, S] [I] L.length (fun i v => ((ft w S ep (L.map (·.2)).toArray)[i]?).map (·.2) = some v)
 (fun i h => h.get? S = some o /\ ∃ sl : Nat, h.get? I = some (zq S L.length ep sl i) /\ (w.params.followText "set-order" = false -> SetTable.below t.place sl = i)) where
 sub := fun b hb => by simp at hb; simp [hb]
 frame := fun _ _ _ st hk => ⟨hk S (by simp) _ st.1, let ⟨sl, a, b⟩ := st.2; ⟨sl, hk I (by simp) _ a, b⟩⟩
 item := fun i s Q E hi st hQ => by
  obtain ⟨h1, sl, hI, hb⟩ := st
  have hT : s.TypeIs (.ref I) "set_iterator" := ⟨_, hI, rfl⟩
  have hlen : (ft w S ep (L.map (·.2)).toArray).size = L.length := by
   have := (zo w S ep (L.map (·.2)).toArray).length_eq
   simpa using this
  have aZ : i < (ft w S ep (L.map (·.2)).toArray).size := by omega
  unfold pyNext
  refine wpAny_bind (wpAny_attempt (wpAny_callSpecial?_slot (name := Str.ofString "__next__") hT mz
   (wpAny_call_entry mz hT Gm ?_ (Gn _))))
  unfold Builtin.«set_iterator.__next__»
  refine wpAny_bind (wpAny_pure (wpAny_bind (wpAny_fieldsOf hI rfl ?_)))
  show wpAny _ _ (setEntries S >>= _) _ _ _
  refine wpAny_bind (wpAny_setEntries_of h1 x.dat (fits_of x.tok) ?_)
  refine wpAny_ite_split (fun z => absurd z (by simp)) (fun _ => ?_)
  show wpAny _ _ (setNext S (Int.toNat (sl : Int)) (Int.toNat (i : Int)) (Int.toNat (ep : Int)) >>= _) _ _ _
  rw [Int.toNat_natCast, Int.toNat_natCast, Int.toNat_natCast]
  refine wpAny_bind (Gy x h1 hb fun cH tm => ?_)
  rw [Array.getElem?_eq_getElem aZ]
  dsimp only [Option.map_some]
  refine wpAny_bind (wpAny_setField hI rfl (by simp) ?_)
  have GA := Heap.get?_update_self (Obj.mapFields (·.setIfInBounds 0 (rawInt (cH : Int)))) hI rfl
  refine wpAny_bind (wpAny_setField GA rfl (by simp [Obj.mapFields]) ?_)
  have N8 := Heap.get?_update_self (Obj.mapFields (·.setIfInBounds 1 (rawInt ((i : Int) + 1)))) GA rfl
  have GB : ∀ (b : Addr) (u : Obj), b ≠ I -> s.heap.get? b = some u -> ((s.heap.update I (Obj.mapFields (·.setIfInBounds 0 (rawInt (cH : Int))))).update I (Obj.mapFields (·.setIfInBounds 1 (rawInt ((i : Int) + 1))))).get? b = some u := fun b u hb e =>
   (Heap.get?_update_other _ _ (Ne.symm hb)).trans ((Heap.get?_update_other _ _ (Ne.symm hb)).trans e)
  refine wpAny_pure ⟨_, rfl, wpAny_pure (hQ _ _ s.toks (by rw [Array.getElem?_eq_getElem aZ]; rfl) ⟨GB S o dJ h1, cH, N8, fun hf => tm hf hi⟩ fun b u hb e => GB b u (by simpa using hb) e)⟩
 done := fun s Q E st hQ => by
  obtain ⟨h1, sl, hI, hb⟩ := st
  have hT : s.TypeIs (.ref I) "set_iterator" := ⟨_, hI, rfl⟩
  have hlen : (ft w S ep (L.map (·.2)).toArray).size = L.length := by
   have := (zo w S ep (L.map (·.2)).toArray).length_eq
   simpa using this
  unfold pyNext
  refine wpAny_bind (wpAny_attempt (wpAny_callSpecial?_slot (name := Str.ofString "__next__") hT mz
   (wpAny_call_entry mz hT Gm ?_ (Gn _))))
  unfold Builtin.«set_iterator.__next__»
  refine wpAny_bind (wpAny_pure (wpAny_bind (wpAny_fieldsOf hI rfl ?_)))
  show wpAny _ _ (setEntries S >>= _) _ _ _
  refine wpAny_bind (wpAny_setEntries_of h1 x.dat (fits_of x.tok) ?_)
  refine wpAny_ite_split (fun z => absurd z (by simp)) (fun _ => ?_)
  show wpAny _ _ (setNext S (Int.toNat (sl : Int)) (Int.toNat (L.length : Int)) (Int.toNat (ep : Int)) >>= _) _ _ _
  rw [Int.toNat_natCast, Int.toNat_natCast, Int.toNat_natCast]
  refine wpAny_bind (Gy x h1 hb fun cH tm => ?_)
  rw [Array.getElem?_eq_none (by omega)]
  show wpAny _ _ (setField (.ref I) 2 .none >>= _) _ _ s
  refine wpAny_bind (wpAny_setField hI rfl (by simp) ?_); show wpAny _ _ (newExc (.type "StopIteration") [] >>= _) _ _ _
  refine wpAny_bind ?_; simp only [newExc, newTuple]
  refine wpAny_bind (wpAny_newObj_type ?_ (by size_fits)); refine wpAny_bind (m := firstArgMember _ _) (wpAny_of_eq (a := Value.none) (by first | rfl | (simp only [firstArgMember]; rfl)) ?_)
  refine wpAny_newObj_type ?_ (by size_fits); simp only [raiseNew]
  refine wpAny_bind (wpAny_handled ?_); rw [show A.in1.handled = none from hh]
  refine wpAny_bind (wpAny_pure (wpAny_throw ?_)); refine wpAny_bind (wpAny_isInstance (T := "StopIteration") (b := true) ⟨_, Heap.get?_push_size _ rfl, rfl⟩ isSubtype_stop ?_)
  refine wpAny_pure (hQ _ s.toks fun b u hb e => (((Heap.SameBut.update ..).extBut.push _).push _) b u (by simpa using hb) e)
 self := fun _ s _ _ st hQ => by
  obtain ⟨h1, sl, hI, hb⟩ := st
  have hT : s.TypeIs (.ref I) "set_iterator" := ⟨_, hI, rfl⟩
  refine wpAny_pyIter_slot hT Gw (wpAny_call_entry Gw hT N2 ?_ (N3 _))
  show wpAny _ _ (ret (.ref I)) _ _ s
  exact wpAny_pure ⟨_, rfl, "set_iterator", _, hT, mz.lookup, hQ⟩
theorem N9 (x : mC w S o ep t L) : PySem.W.KdlSrc prog w "set" S S L.length (fun i v => ((ft w S ep (L.map (·.2)).toArray)[i]?).map (·.2) = some v) (fun h => h.get? S = some o) where
 type := fun _ h => ⟨o, h, x.cls⟩
 there := fun _ h => ⟨Heap.lt_size h, Heap.lt_size h⟩
 keep := fun _ _ h hk => hk S (.inl rfl) o h
 notList := by decide
 notTuple := by decide
 hint := fun _ _ _ _ h hq => Nx ⟨o, h, x.cls⟩ hq
 iter := fun _ _ hh h => ⟨_, _, (fun _ _ hq => N6 x h hq), N7 hh x (Nat.ne_of_lt (Heap.lt_size h)),
  ⟨Heap.get?_push_of_some _ h, 0, Heap.get?_push_size _ rfl, fun _ => Nat.le_zero.mp (by
   have hb := ur x.tok.ri 0
   dsimp only at hb
   rw [x.tok.pl]
   refine Nat.le_of_not_lt fun aR => ?_
   generalize SetTable.below (L.map (·.1)).toArray 0 = r at hb aR
   cases hL : L.map (·.1) with
   | nil => rw [hL] at hb; simp at hb; omega
   | cons a l =>
    have := hb.2.1 a (by rw [hL]; cases r with | zero => omega | succ r => simp)
    omega)⟩⟩
end
end Gz
namespace Gz
open PySem PySem.Spec PyProof.Rows L2 qt
theorem Oa {prog : Program} {w : World} {af : List Value} {ns : List Int} (h : IntsAre af ns) : PySem.ItemsAre (intKind prog w) ns af := by
 induction h with
 | nil => exact .nil
 | cons n t _ ih => exact .cons (by simp [intKind, Value.isInt]) ih
noncomputable def iI (us : List Value) (i : Nat) : Addr := match us[i]? with | some (.ref p) => p | _ => 0
theorem zr {prog : Program} {w : World} {h : Heap} {us : List Value} {kis : List (List Int)} {i : Nat} (x : fQ h us kis i) : us[i]? = some (.ref (iI us i)) /\ (tK prog w).is h (kis.getD i []) (iI us i) := by
 obtain ⟨p, o, af, m, h1, h2, h3, h4, h5, h6⟩ := x
 have e : iI us i = p := by unfold iI; rw [h1]
 rw [e]
 exact ⟨h1, o, af.toArray, m, h2, h3, h4, Oa h5⟩
noncomputable def GC (kis : List (List Int)) : Prop := ∀ k ∈ kis, ∀ k' ∈ kis, reduceHash (Builtin.Tuple.tupleHashOf (k.map hashInt)) = reduceHash (Builtin.Tuple.tupleHashOf (k'.map hashInt)) -> k = k'
noncomputable def qx (K : PySem.W.Frag) (t : TE) : TE := fun σ H Q => t σ H fun v H1 => ∃ (a : Addr) (ks : List V) (kis : List (List Int)), v = V.ref a /\ ai K H1 a ks /\ cy K H1 ks kis /\ ks.length <= 63 /\ GC kis /\
 ∀ M : List (List Int × Addr), (M.map (·.1)).Nodup -> (∀ k, k ∈ M.map (·.1) ↔ k ∈ kis) -> (∀ m ∈ M, ∃ j : Nat, ks[j]? = some (V.ref m.2) /\ kis[j]? = some m.1) -> ∀ l, H1 l = none -> Q (.ref l) (upd H1 l (.lst (bJ (M.map (·.1)) .non (M.map fun m => V.ref m.2))))
section
variable {X : Cx}
theorem Ob {e : Expr} {t : TE} {p1 p2 pos qy : Pos} (hc : X.calm = true) (hu : X.A.units + 64 < cLine) (he : PE X e t) (zt : Gl X "sorted") (Oc : X.mg "sorted" = none) (gP : bootBuiltins "sorted" = some (.builtin "sorted"))
 (zu : Gl X "set") (uy : X.mg "set" = none) (ku : bootBuiltins "set" = some (.type "set"))
 (dH : starEach [e] X.env = [(false, eval e X.env)] := by rfl) (qz : starEach [.Call (.Name "set" p2) [e] [] qy] X.env = [(false, eval (.Call (.Name "set" p2) [e] [] qy) X.env)] := by rfl) :
 PE X (.Call (.Name "sorted" p1) [.Call (.Name "set" p2) [e] [] qy] [] pos) (qx X.K t) := by
 intro pins s σ H Q I h
 refine wpAny_Call_Name_kw (fG I zt Oc gP ?_ (by decide) (by decide))
 refine PyProof.Rows.callWith_builtin1 ?_ (by rw [qz]; rfl) rfl
 rw [qz]
 show wpAny _ _ (spliced ((false, eval (.Call (.Name "set" p2) [e] [] qy) X.env) :: backTo pos [])) _ _ s
 refine Calls.spliced_cons ?_
 refine wpAny_Call_Name_kw (fG I zu uy ku ?_ (by decide) (by decide))
 refine PyProof.Rows.callWith_type1 ?_ (by rw [dH]; rfl) rfl
 rw [dH]
 show wpAny _ _ (spliced ((false, eval e X.env) :: backTo qy [])) _ _ s
 refine Calls.spliced_cons (aq (he pins s σ H _ I h) fun u s1 ⟨x, H1, I1, r1, q1⟩ => ?_)
 obtain ⟨a, ks, kis, rfl, hS, hK, hn, hh, q⟩ := q1
 cases r1
 refine Calls.spliced_nil ?_
 obtain ⟨us, rv, pl, hz⟩ := I1.list hS
 have hl : us.length = ks.length := rv.length.symm
 have Xc : ks.length = kis.length := hK.len
 have ht := yN I1 hK rv
 refine NW (items := us.toArray) (key := fun i => kis.getD i []) (ad := iI us) (I1.ok.hd hc) pl.isList hu (by simp; omega) (fun i v hv => ?_) (fun j hj => (zr (ht j (by simpa using hj))).2) (fun i j hi hj Od => ?_) fun h2 tk M Oe hM hk => ?_
 ·rw [List.getElem?_toArray] at hv
  have hi : i < us.length := (List.getElem?_eq_some_iff.mp hv).1
  have := (zr (prog := X.prog) (w := X.w) (ht i hi)).1
  rw [hv] at this
  exact Option.some.inj this
 ·have aZ : i < kis.length := by simp at hi; omega
  have yh : j < kis.length := by simp at hj; omega
  exact hh _ (by simp [List.getD, aZ]) _ (by simp [List.getD, yh]) Od
 refine Calls.spliced_nil ?_
 obtain ⟨o, ep, tb, L, g1, g2, g3, zm, g4, g5, g6, g7⟩ := Oe
 have hx : mC X.w s1.heap.objs.size o ep tb L := ⟨g2, g3, zm, g4, g5⟩
 have hsz : us.toArray.size = us.length := by simp
 rw [hsz] at hM
 obtain ⟨m1, m2, m3, m4⟩ := hM
 have Of : L.length = M.length := by have := congrArg List.length g7; simpa using this
 have hp : ((ft X.w s1.heap.objs.size ep (L.map (·.2)).toArray).toList).Perm (M.map (gN X.prog X.w)) := by
  have := zo X.w s1.heap.objs.size ep (L.map (·.2)).toArray
  rw [List.toList_toArray, g7] at this
  rw [g7]; exact this
 obtain ⟨M', e1, e2⟩ := zh hp
 have Xd : M'.length = L.length := e2.length_eq.trans Of.symm
 have gQ : ∀ m ∈ M', ∃ j, j < us.length /\ m = (kis.getD j [], iI us j) := fun m hm => m2 m (e2.mem_iff.mp hm)
 have cE : (M'.map (·.1)).Nodup := ((e2.map (·.1)).nodup_iff).mpr m1
 have Og := t9 (M'.map (·.2))
 have Oh : ∀ j, j < us.length -> fQ h2 us kis j := fun j hj => (ht j hj).keep fun b u e _ => hk b u (Heap.lt_size e) e
 refine yL (s := { s1 with heap := h2, toks := tk }) (kis := M'.map (·.1)) (vs := (M'.map (·.2)).map Value.ref) (by simp) (by simp; omega) (fun i hi => ?_) (fun A' Q' E' hA hq => ?_) fun l h' eL k1 k2 k3 => ?_
 ·have aZ : i < M'.length := by simpa using hi
  obtain ⟨j, hj, ej⟩ := gQ M'[i] (List.getElem_mem aZ)
  obtain ⟨p, o', af, mm, t1, t2, t3, t4, t5, t6⟩ := Oh j hj
  have ea : iI us j = p := by unfold iI; rw [t1]
  refine ⟨p, o', af, mm, by simp [aZ, ej, ea], t2, t3, t4, ?_, t6⟩
  have : (M'.map (·.1)).getD i [] = kis.getD j [] := by simp [List.getD, aZ, ej]
  rw [this]; exact t5
 ·refine Fo (s := { s1 with heap := h2, toks := tk }) (N9 hx) (hA.trans (I1.ok.hd hc)) g1 (Nat.le_trans (show L.length <= 64 by omega) (by decide)) fun h3 pP acc b1 b2 b3 => ?_
  have Oi : acc.toList = (M'.map (·.2)).map Value.ref := by
   refine List.ext_getElem? fun i => ?_
   rw [Array.getElem?_toList]
   by_cases hi : i < L.length
   ·have aZ : i < acc.size := by rw [b3.1]; exact hi
    have kj : i < M'.length := by omega
    have := b3.2 i acc[i] (Array.getElem?_eq_getElem aZ)
    dsimp only at this
    have e3 : (ft X.w s1.heap.objs.size ep (L.map (·.2)).toArray)[i]? = some (gN X.prog X.w M'[i]) := by
     rw [<- Array.getElem?_toList, e1]
     simp [kj]
    rw [e3] at this
    rw [Array.getElem?_eq_getElem aZ, <- this]
    simp [kj]
   ·rw [Array.getElem?_eq_none (by rw [b3.1]; omega)]
    rw [eq_comm, List.getElem?_eq_none_iff]
    simp only [List.length_map]
    omega
  rw [Oi]
  exact hq h3 pP b1 b2
 ·refine yO (s := s1) (ks := (M'.map (·.2)).map V.ref) (kis := M'.map (·.1)) (us := (M'.map (·.2)).map Value.ref) I1 Og ?_ ?_ (fun b u e => k2 b u (hk b u (Heap.lt_size e) e)) k3 fun l' iJ => ?_
  ·simp only [List.length_map]
   exact Nat.le_trans (show _ <= 64 by omega) (by decide)
  ·exact Nat.le_trans (Nat.le_of_lt (Heap.lt_size g1)) k1
  ·have := q M' cE (fun k => ?_) (fun m hm => ?_) l' iJ
   ·simpa [List.map_map, Function.comp_def] using this
   ·rw [(e2.map (·.1)).mem_iff]
    constructor
    ·intro gD
     obtain ⟨m, hm, rfl⟩ := List.mem_map.mp gD
     obtain ⟨j, hj, rfl⟩ := m2 m hm
     have : j < kis.length := by omega
     simp [List.getD, this]
    ·intro gD
     obtain ⟨j, hj, rfl⟩ := List.getElem_of_mem gD
     have := m3 j (by omega)
     simpa [List.getD, hj] using this
   ·obtain ⟨j, hj, rfl⟩ := gQ m hm
    have zv : j < ks.length := by omega
    have zb : j < kis.length := by omega
    refine ⟨j, ?_, by simp [List.getD, zb]⟩
    obtain ⟨p, hV, bZ⟩ := hK.get (List.getElem?_eq_getElem zv)
    have ki := (zr (prog := X.prog) (w := X.w) (ht j hj)).1
    obtain ⟨u0, GD, hr⟩ := rv.get (List.getElem?_eq_getElem zv)
    rw [ki] at GD
    cases GD
    rw [hV] at hr
    cases hr
    rw [List.getElem?_eq_getElem zv, hV]
end
end Gz
namespace Gz
open PySem
noncomputable def GF : List (List Int) := (List.range 7).flatMap fun (a : Nat) => (List.range 7).map fun (b : Nat) => [(a : Int), (b : Int)]
theorem Oj : (GF.map fun k => reduceHash (Builtin.Tuple.tupleHashOf (k.map hashInt))).Nodup := by decide +kernel
theorem Ol {kis : List (List Int)} (h : ∀ k ∈ kis, ∃ a b : Nat, a < 7 /\ b < 7 /\ k = [(a : Int), (b : Int)]) : GC kis := by
 have mem : ∀ k ∈ kis, k ∈ GF := fun k hk => by
  obtain ⟨a, b, ha, hb, rfl⟩ := h k hk
  exact List.mem_flatMap.mpr ⟨a, List.mem_range.mpr ha, List.mem_map.mpr ⟨b, List.mem_range.mpr hb, rfl⟩⟩
 intro k hk k' gD e
 obtain ⟨i, hi, rfl⟩ := List.getElem_of_mem (mem k hk)
 obtain ⟨j, hj, rfl⟩ := List.getElem_of_mem (mem k' gD)
 have := (List.getElem_inj (h₀ := by simpa using hi) (h₁ := by simpa using hj) Oj).mp (by simpa using e)
 subst this; rfl
end Gz
namespace Gz
open PySem PySem.Spec PyProof.Rows L2
section
variable {X : Cx} {pos : Pos}
end
end Gz
namespace Gz
open PySem PySem.Spec PyProof.Rows L2
noncomputable def GG (p : P2) : W2 := some (some p.1, some p.2)
theorem GH {H : Hp} : ∀ {ys : List V} {pp : List P2}, ak (iz H) ys (pp.map GG) -> cc H ys pp
 | [], [], _ => trivial
 | _ :: _, _ :: _, h => ⟨h.1, GH h.2⟩
 | [], _ :: _, h => h.elim
 | _ :: _, [], h => h.elim
end Gz
namespace Gz
open PySem PySem.Spec PyProof.Rows L2
theorem ke.reach {ps : List P2} {ms : List Mk} {tp : Nat -> Option P2} (T : ke ps ms tp) : ∀ (n t : Nat) {v k : Int}, t + n <= ps.length ->
 (tp t = some (v, k) -> ∃ v' k', tp (t + n) = some (v', k') /\ v' <= v + (pre (·.2) ps (t + n) - pre (·.2) ps t)) /\
 (tp (t + n) = some (v, k) -> ∃ v' k', tp t = some (v', k') /\ v' <= v + (pre (·.1) ps t - pre (·.1) ps (t + n)))
 | 0, t, v, k, _ => ⟨fun h => ⟨v, k, h, by simp⟩, fun h => ⟨v, k, h, by simp⟩⟩
 | n + 1, t, v, k, hn => by
  refine ⟨fun h => ?_, fun h => ?_⟩
  ·obtain ⟨v1, k1, e1, h1⟩ := (T.reach n t (by omega)).1 h
   obtain ⟨v2, k2, e2, h2⟩ := T.fwd (t + n) v1 k1 (by omega) e1
   refine ⟨v2, k2, e2, ?_⟩
   rw [show t + (n + 1) = (t + n) + 1 by omega, j7 _ ps (by omega)]
   omega
  ·obtain ⟨v1, k1, e1, h1⟩ := T.bwd (t + n) v k (by omega) h
   obtain ⟨v2, k2, e2, h2⟩ := (T.reach n t (by omega)).2 e1
   refine ⟨v2, k2, e2, ?_⟩
   rw [show t + (n + 1) = (t + n) + 1 by omega, j7 _ ps (by omega)]
   omega
theorem Om {ps : List P2} {ms ns : List Mk} {tp : Nat -> Option P2} (T : ke ps ms tp) (hm : ∀ m ∈ ms, m.1 <= ps.length) (hn : ∀ m ∈ ns, m.1 <= ps.length) (h0 : ud ns tp) {a b : Mk} (ha : a ∈ ms) (hb : b ∈ ns) : ¬ gJ ps a b := by
 rintro ⟨h, l, e1, e2, aR⟩
 obtain ⟨v, k, e3, h3⟩ := T.top a ha h e1
 have pL := hm a ha
 have b0 := hn b hb
 have key : ∃ v' k', tp b.1 = some (v', k') /\ v' <= v + cC ps a.1 b.1 := by
  unfold cC
  by_cases hle : a.1 <= b.1
  ·rw [if_pos hle]
   obtain ⟨n, oz⟩ : ∃ n, b.1 = a.1 + n := ⟨b.1 - a.1, by omega⟩
   rw [oz]
   exact (T.reach n a.1 (by omega)).1 e3
  ·rw [if_neg hle]
   obtain ⟨n, oz⟩ : ∃ n, a.1 = b.1 + n := ⟨a.1 - b.1, by omega⟩
   rw [oz] at e3 ⊢
   exact (T.reach n b.1 (by omega)).2 e3
 obtain ⟨v', k', e4, h4⟩ := key
 have := h0 b hb l v' k' e2 e4
 omega
theorem qA (f : P2 -> Int) (p : P2) (n : Nat) : ∀ i, i <= n -> pre f (List.replicate n p) i = f p * i
 | 0, _ => by simp [pre]
 | i + 1, h => by
  rw [j7 f _ (by rw [List.length_replicate]; omega), qA f p n i (by omega)]
  have : ba (List.replicate n p) i = p := by simp [ba, List.getD, List.getElem?_replicate, show i < n by omega]
  rw [this, Int.natCast_add, Int.mul_add]
  simp
noncomputable def mD (u d a b : Int) : Int := if a < b then u * (b - a) else d * (a - b)
theorem Oo (u d : Int) {n i j : Nat} (hi : i <= n) (hj : j <= n) : cC (List.replicate n (-d, u)) i j = mD u d i j := by
 unfold cC mD
 rw [qA _ _ n i hi, qA _ _ n j hj, qA _ _ n i hi, qA _ _ n j hj]
 dsimp only
 by_cases h : i < j
 ·rw [if_pos (Nat.le_of_lt h), if_pos (by omega), Int.mul_sub]
 ·by_cases e : i = j
  ·subst e
   rw [if_pos (Nat.le_refl _), if_neg (by omega)]
   simp
  ·rw [if_neg (by omega), if_neg (by omega), Int.mul_sub]
   rw [Int.neg_mul, Int.neg_mul]
   omega
noncomputable def iK (u d : Int) (r s : P2 × S2) : Prop := ∃ h l, r.2.2 = some h /\ s.2.1 = some l /\ h + mD u d r.1.2 s.1.2 < l
noncomputable def fu (u d : Int) (tb : Tb) (p : P2) : Prop := ∃ r ∈ tb, ∃ s ∈ tb, iK u d r s /\ p = (min r.1.1 s.1.1, max r.1.1 s.1.1)
theorem Oq {u d : Int} {tb bB : Tb} (h : tb.Perm bB) (p : P2) : fu u d tb p ↔ fu u d bB p := by
 unfold fu
 constructor
 ·rintro ⟨r, hr, s, hs, x⟩
  exact ⟨r, h.mem_iff.mp hr, s, h.mem_iff.mp hs, x⟩
 ·rintro ⟨r, hr, s, hs, x⟩
  exact ⟨r, h.mem_iff.mpr hr, s, h.mem_iff.mpr hs, x⟩
theorem qB {tb : Tb} {i : Int} {m : Mk} : m ∈ iF tb i ↔ ∃ r ∈ tb, r.1.1 = i /\ m = (r.1.2.toNat, r.2) := by
 unfold iF
 simp only [List.mem_map, List.mem_filter, decide_eq_true_eq]
 constructor
 ·rintro ⟨r, ⟨h1, h2⟩, rfl⟩
  exact ⟨r, ug.mem_iff.mp h1, h2, rfl⟩
 ·rintro ⟨r, h1, h2, rfl⟩
  exact ⟨r, ⟨ug.mem_iff.mpr h1, h2⟩, rfl⟩
noncomputable def fy (ks : List P2) : List (List Int) := ks.map fun p => [p.1, p.2]
noncomputable def gR (ks : List P2) : List P2 := bJ (fy ks) (0, 0) ks
theorem GI : ∀ {as bs : List P2}, as.Pairwise (fun a b => HT.lexLt [b.1, b.2] [a.1, a.2] = false) -> bs.Pairwise (fun a b => HT.lexLt [b.1, b.2] [a.1, a.2] = false) -> as.Perm bs -> as = bs
 | [], bs, _, _, h => (List.Perm.nil_eq h)
 | a :: as, [], _, _, h => by cases h.symm.nil_eq
 | a :: as, b :: bs, s1, s2, h => by
  have e : a = b := by
   have m1 : a ∈ b :: bs := h.mem_iff.mp (.head _)
   have m2 : b ∈ a :: as := h.mem_iff.mpr (.head _)
   rcases List.mem_cons.mp m1 with z | z
   ·exact z
   ·rcases List.mem_cons.mp m2 with y | y
    ·exact y.symm
    ·have := y3 ((List.pairwise_cons.mp s1).1 b y) ((List.pairwise_cons.mp s2).1 a z)
     injection this with e1 e2
     injection e2 with e2 _
     exact Prod.ext (by omega) (by omega)
  subst e
  rw [GI (List.pairwise_cons.mp s1).2 (List.pairwise_cons.mp s2).2 (List.Perm.cons_inv h)]
theorem Ot {ks gT : List P2} (h1 : ks.Nodup) (h2 : gT.Nodup) (h : ∀ p, p ∈ ks ↔ p ∈ gT) : gR ks = gR gT :=
 GI (yg (f := fun p : P2 => [p.1, p.2]) rfl) (yg (f := fun p : P2 => [p.1, p.2]) rfl) (pQ.trans (((List.perm_ext_iff_of_nodup h1 h2).mpr h).trans pQ.symm))
noncomputable def uz (ps : List P2) (a b : List Mk) : Bool := @decide (∃ m ∈ a, ∃ n ∈ b, gJ ps m n) (Classical.propDecidable _)
noncomputable def dU (ps : List P2) (g : Int × List Mk) (l : List (Int × List Mk)) : List P2 := (l.filter fun h => uz ps g.2 h.2).map fun h => (g.1, h.1)
noncomputable def dz (ps : List P2) (gs l : List (Int × List Mk)) : List P2 := l.flatMap fun g => dU ps g gs
theorem zx {ps : List P2} {a b : List Mk} : uz ps a b = true ↔ ∃ m ∈ a, ∃ n ∈ b, gJ ps m n := @decide_eq_true_iff _ (Classical.propDecidable _)
theorem GJ {ps : List P2} {g h : Int × List Mk} {l : List (Int × List Mk)} {j : Nat} (e : l[j]? = some h) : dU ps g (l.take (j + 1)) = dU ps g (l.take j) ++ if uz ps g.2 h.2 then [(g.1, h.1)] else [] := by
 unfold dU
 rw [List.take_succ, e, List.filter_append, List.map_append]
 congr 1
 by_cases hc : uz ps g.2 h.2 = true <;> simp [hc]
theorem Ou {ps : List P2} {gs l : List (Int × List Mk)} {g : Int × List Mk} {i : Nat} (e : l[i]? = some g) : dz ps gs (l.take (i + 1)) = dz ps gs (l.take i) ++ dU ps g gs := by
 unfold dz
 rw [List.take_succ, e, List.flatMap_append]
 simp
theorem zy {ps : List P2} {gs : List (Int × List Mk)} {p : P2} : p ∈ dz ps gs gs ↔ ∃ g ∈ gs, ∃ h ∈ gs, p = (g.1, h.1) /\ ∃ m ∈ g.2, ∃ n ∈ h.2, gJ ps m n := by
 unfold dz dU
 simp only [List.mem_flatMap, List.mem_map, List.mem_filter, zx]
 constructor
 ·rintro ⟨g, hg, h, ⟨hh, hc⟩, rfl⟩
  exact ⟨g, hg, h, hh, rfl, hc⟩
 ·rintro ⟨g, hg, h, hh, rfl, hc⟩
  exact ⟨g, hg, h, ⟨hh, hc⟩, rfl⟩
theorem zA (ps : List P2) (gs : List (Int × List Mk)) : ∀ l, (dz ps gs l).length <= l.length * gs.length
 | [] => by simp [dz]
 | g :: l => by
  have ih := zA ps gs l
  have : dz ps gs (g :: l) = dU ps g gs ++ dz ps gs l := rfl
  rw [this, List.length_append, List.length_cons, Nat.succ_mul]
  have : (dU ps g gs).length <= gs.length := by unfold dU; rw [List.length_map]; exact List.length_filter_le _ _
  omega
noncomputable def eS (e : Nat) (tb : Tb) : List (Int × List Mk) := (List.range e).map fun (i : Nat) => ((i : Int), iF tb (i : Int))
theorem Ov {e t u d : Int} {tb : Tb} (ag : bR e t tb) (ht : 1 <= t) {p : P2} : fu u d tb p ↔ ∃ q ∈ dz (List.replicate (t - 1).toNat (-d, u)) (eS e.toNat tb) (eS e.toNat tb), p = (min q.1 q.2, max q.1 q.2) := by
 have on : ∀ r ∈ tb, 0 <= r.1.1 /\ r.1.1 < e /\ 0 <= r.1.2 /\ r.1.2 < t := fun r hr => by
  have := ag.2 r hr
  unfold kc at this
  omega
 have cl : ∀ r ∈ tb, ∀ s ∈ tb, gJ (List.replicate (t - 1).toNat (-d, u)) (r.1.2.toNat, r.2) (s.1.2.toNat, s.2) ↔ iK u d r s := fun r hr s hs => by
  have h1 := on r hr
  have h2 := on s hs
  unfold gJ iK
  dsimp only
  rw [Oo u d (by omega) (by omega), Int.toNat_of_nonneg h1.2.2.1, Int.toNat_of_nonneg h2.2.2.1]
 unfold fu
 constructor
 ·rintro ⟨r, hr, s, hs, ha, rfl⟩
  have h1 := on r hr
  have h2 := on s hs
  refine ⟨(r.1.1, s.1.1), zy.mpr ⟨(r.1.1, iF tb r.1.1), ?_, (s.1.1, iF tb s.1.1), ?_, rfl, _, qB.mpr ⟨r, hr, rfl, rfl⟩, _, qB.mpr ⟨s, hs, rfl, rfl⟩, (cl r hr s hs).mpr ha⟩, rfl⟩
  ·exact List.mem_map.mpr ⟨r.1.1.toNat, List.mem_range.mpr (by omega), by rw [Int.toNat_of_nonneg h1.1]⟩
  ·exact List.mem_map.mpr ⟨s.1.1.toNat, List.mem_range.mpr (by omega), by rw [Int.toNat_of_nonneg h2.1]⟩
 ·rintro ⟨q, hq, rfl⟩
  obtain ⟨g, hg, h, hh, rfl, m, hm, n, hn, hc⟩ := zy.mp hq
  obtain ⟨i, _, rfl⟩ := List.mem_map.mp hg
  obtain ⟨j, _, rfl⟩ := List.mem_map.mp hh
  obtain ⟨r, hr, e1, rfl⟩ := qB.mp hm
  obtain ⟨s, hs, e2, rfl⟩ := qB.mp hn
  exact ⟨r, hr, s, hs, (cl r hr s hs).mp hc, by rw [e1, e2]⟩
end Gz
namespace Gz
open PySem PySem.Spec PyProof.Rows L2
noncomputable def fz (h : Heap) (a : Addr) (p : P2) : Prop := ∃ o t u n, h.get? a = some o /\ o.cls = .type "tuple" /\ o.data = .seq #[.int p.1 t, .int p.2 u] n
theorem fz.keep {h h' : Heap} {a : Addr} {p : P2} (x : fz h a p) (k : ∀ o, h.get? a = some o -> h'.get? a = some o) : fz h' a p := let ⟨o, t, u, n, e, r⟩ := x; ⟨o, t, u, n, k o e, r⟩
section
variable {prog : Program} {w : World} {A : Around} {E : Value -> Shared -> Prop} {s : Shared}
theorem GK {x y : Int} {t u : Tok} {Q : Value -> Shared -> Prop} (h : Q (.bool (decide (x < y))) s) : wpAny (model prog w) A (richCompare .Lt (.int x t) (.int y u)) Q E s :=
 richCompare_gives (op := .Lt) (typeIs_int s _ t) (typeIs_int s _ u) PySem.F.slot_int_lt PySem.F.entry_int_lt (PySem.F.args_int_lt_2 _ _) (gives_int_lt _ _ t u) (fun x => nomatch x) h
theorem uA {Q : Value -> Shared -> Prop} {a b : Addr} {p q : P2} (ha : fz s.heap a p) (hb : fz s.heap b q) (hu : A.units < cLine) (h : Q (.bool (cZ p q)) s) : wpAny (model prog w) A (richCompare .Lt (.ref a) (.ref b)) Q E s := by
 obtain ⟨oa, t1, u1, n1, hoa, hca, hda⟩ := ha
 obtain ⟨ob, t2, u2, n2, hob, hcb, gx⟩ := hb
 have Ta : s.TypeIs (.ref a) "tuple" := ⟨oa, hoa, hca⟩
 have Tb : s.TypeIs (.ref b) "tuple" := ⟨ob, hob, hcb⟩
 refine wpAny_richCompare_same_room Ta Tb PySem.F.slot_tuple_lt (wpAny_call_entry PySem.F.slot_tuple_lt Ta PySem.F.entry_tuple_lt ?_ (PySem.F.args_tuple_lt_2 _ _)) hu
 show wpAny _ _ (isInstance (.ref b) (.type "tuple") >>= _) _ _ s
 refine wpAny_bind (wpAny_isInstance Tb isSubtype_tuple_tuple ?_)
 simp only [Bool.not_true, Bool.false_eq_true, if_false]
 refine wpAny_bind (wpAny_tupleItemsOf hoa hda ?_)
 refine wpAny_bind (wpAny_tupleItemsOf hob gx ?_)
 refine wpAny_bind ?_
 refine wpAny_forIn_list _ (fun rest r s' => r.1 = none /\ s' = s /\ (rest = [(.int p.1 t1, .int q.1 t2), (.int p.2 u1, .int q.2 u2)] ∨ (rest = [(.int p.2 u1, .int q.2 u2)] /\ p.1 = q.1) ∨ (rest = [] /\ p.1 = q.1 /\ p.2 = q.2))) _ ?_ ?_ _ _ ⟨rfl, rfl, .inl rfl⟩
 ·rintro ⟨u, v⟩ rest r s' ⟨hr, rfl, hz⟩
  rcases hz with hz | ⟨hz, e1⟩ | ⟨hz, _⟩
  ·cases hz
   refine wpAny_bind (wpAny_eqBool_int ?_)
   by_cases e : p.1 = q.1
   ·rw [show (p.1 == q.1) = true by simpa using e]
    simp only [Bool.not_true, Bool.false_eq_true, if_false]
    exact wpAny_pure ⟨rfl, rfl, .inr (.inl ⟨trivial, e⟩)⟩
   ·rw [show (p.1 == q.1) = false by simpa using e]
    simp only [Bool.not_false, if_true]
    refine wpAny_bind (wpAny_rule (wpAny_bind (GK (wpAny_bind (wpAny_pure (wpAny_pure (wpAny_pure ⟨_, rfl, fun z => (nomatch z), ?_⟩)))))))
    have e2 : cZ p q = decide (p.1 < q.1) := by unfold cZ; rw [decide_eq_false e]; simp
    rw [<- e2]
    exact h
  ·cases hz
   refine wpAny_bind (wpAny_eqBool_int ?_)
   by_cases e : p.2 = q.2
   ·rw [show (p.2 == q.2) = true by simpa using e]
    simp only [Bool.not_true, Bool.false_eq_true, if_false]
    exact wpAny_pure ⟨rfl, rfl, .inr (.inr ⟨trivial, e1, e⟩)⟩
   ·rw [show (p.2 == q.2) = false by simpa using e]
    simp only [Bool.not_false, if_true]
    refine wpAny_bind (wpAny_rule (wpAny_bind (GK (wpAny_bind (wpAny_pure (wpAny_pure (wpAny_pure ⟨_, rfl, fun z => (nomatch z), ?_⟩)))))))
    have e2 : cZ p q = decide (p.2 < q.2) := by unfold cZ; rw [e1]; simp
    rw [<- e2]
    exact h
  ·cases hz
 ·rintro ⟨r1, r2⟩ s' ⟨hr, rfl, hz⟩
  simp only at hr
  subst hr
  rcases hz with hz | ⟨hz, _⟩ | ⟨_, e1, e2⟩
  ·cases hz
  ·cases hz
  ·refine wpAny_pure ⟨_, rfl, fun z => (nomatch z), ?_⟩
   have e3 : cZ p q = false := by unfold cZ; rw [e1, e2]; simp
   rw [e3] at h
   exact h
theorem Ow {R : Result -> Shared -> Prop} {I S : Addr} {fp wr : List Addr} {n : Nat} {P : Nat -> Value -> Prop} {St : Nat -> Heap -> Prop} {G : Heap -> Prop} {bt : Nat -> Nat -> Bool} {kw : List (Str × Value)}
 (W : Walks prog w A.in1 I fp wr n P St) (hG : ∀ h h', G h -> (∀ b o, b ∉ wr -> b ≠ S -> h.get? b = some o -> h'.get? b = some o) -> G h')
 (jV : ∀ i j vi vj (s : Shared) (Q : Value -> Shared -> Prop) (E : Value -> Shared -> Prop), P i vi -> P j vj -> G s.heap -> Q (.bool (bt i j)) s -> wpAny (model prog w) A.in1 (richCompare .Lt vi vj) Q E s) (hS : S ∉ fp) : ∀ (k j : Nat) (s : Shared) (vb : Value) (c : Nat), k + (j + 1) = n -> St (j + 1) s.heap -> G s.heap -> P (argBest bt j) vb ->
  s.heap.get? S = some { cls := .type "list", dict := none, data := .seq #[vb, vb] c, slots := #[] } ->
  (∀ v h' tk, P (argBest bt (n - 1)) v -> (∀ b o, b ∉ wr -> b ≠ S -> s.heap.get? b = some o -> h'.get? b = some o) -> R (.ok (.ret v)) { s with heap := h', toks := tk }) ->
  codeAny (model prog w) A (.builtin "min.loop" ⟨[.ref I, .none, .ref S], kw⟩) R s := by
 have nS : S ∉ wr := fun z => hS (W.sub _ z)
 have nm : (toString "min" ++ toString ".loop" : String) = "min.loop" := by decide
 intro k
 induction k with
 | zero =>
  intro j s vb c e st g pb oS fin
  have e' : j + 1 = n := by omega
  refine codeAny_builtin PySem.F.entry_min_loop ?_
  rw [Around.under_plainId PySem.F.plain_min_loop _]
  show wpAny _ A.in1 (seqItems? (.ref S) >>= _) _ _ s
  refine wpAny_bind (wpAny_seqItems oS rfl ?_)
  show wpAny _ A.in1 (tryCatch (pyNext (.ref I)) _ >>= _) _ _ s
  refine wpAny_bind (wpAny_tryCatch (W.done s _ _ (e' ▸ st) fun h1 tk kp => ?_))
  have bI := kp S _ nS oS
  show wpAny _ A.in1 (updateSeq S (fun _ => #[]) >>= _) _ _ _
  refine wpAny_bind ?_
  refine wpAny_updateSeq bI rfl (wpAny_bind (wpAny_letGo (wpAny_pure ?_)))
  exact fin vb _ tk (by rw [<- e']; exact pb) fun b o hw hb q => (Heap.get?_update_other _ _ (Ne.symm hb)).trans (kp b o hw q)
 | succ k ih =>
  intro j s vb c e st g pb oS fin
  have lt : j + 1 < n := by omega
  refine codeAny_builtin PySem.F.entry_min_loop ?_
  rw [Around.under_plainId PySem.F.plain_min_loop _]
  show wpAny _ A.in1 (seqItems? (.ref S) >>= _) _ _ s
  refine wpAny_bind (wpAny_seqItems oS rfl ?_)
  show wpAny _ A.in1 (tryCatch (pyNext (.ref I)) _ >>= _) _ _ s
  refine wpAny_bind (wpAny_tryCatch (W.item (j + 1) s _ _ lt st fun v h1 tk pv dm kp => ?_))
  have bI := kp S _ nS oS
  have g1 : G h1 := hG _ _ g fun b o hw _ q => kp b o hw q
  show wpAny _ A.in1 (tryCatch (holding [v, v] (richCompare .Lt v vb >>= _)) _ >>= _) _ _ _
  refine wpAny_bind (wpAny_tryCatch (wpAny_holding (wpAny_bind (jV (j + 1) (argBest bt j) v vb _ _ _ pv pb g1 ?_))))
  refine wpAny_bind (wpAny_holding (wpAny_truthy_bool ?_))
  refine wpAny_bind (wpAny_letGo (wpAny_pure ?_))
  cases hb : bt (j + 1) (argBest bt j) with
  | true =>
   simp only [if_true]
   refine wpAny_bind ?_
   refine wpAny_updateSeq bI rfl (wpAny_bind (wpAny_letGo ?_))
   rw [nm]
   refine wpAny_pure ⟨plainId_quiet PySem.F.plain_min_loop _, ih (j + 1) _ v _ (by omega) (W.frame _ _ _ dm fun b hf o q => ?_) (hG _ _ g1 fun b o _ cB q => (Heap.get?_update_other _ _ (Ne.symm cB)).trans q) (by simp only [argBest, hb, if_true]; exact pv) (Heap.get?_update_self _ bI rfl) fun v2 h2 eL p2 k2 => ?_⟩
   ·exact (Heap.get?_update_other _ _ (fun z : S = b => hS (by rw [z]; exact hf))).trans q
   ·exact fin v2 h2 eL p2 fun b o hw cB q => k2 b o hw cB ((Heap.get?_update_other _ _ (Ne.symm cB)).trans (kp b o hw q))
  | false =>
   simp only [Bool.false_eq_true, if_false]
   refine wpAny_bind (wpAny_letGo ?_)
   rw [nm]
   refine wpAny_pure ⟨plainId_quiet PySem.F.plain_min_loop _, ih (j + 1) _ vb c (by omega) dm g1 (by simp only [argBest, hb, Bool.false_eq_true, if_false]; exact pb) bI fun v2 h2 eL p2 k2 => ?_⟩
   exact fin v2 h2 eL p2 fun b o hw cB q => k2 b o hw cB (kp b o hw q)
theorem Ox {Q : Value -> Shared -> Prop} {a b : Addr} {p q : P2} (hh : A.handled = none) (ha : fz s.heap a p) (hb : fz s.heap b q) (hu : A.in1.units < cLine)
 (h : ∀ h' tk, (∀ c o, s.heap.get? c = some o -> h'.get? c = some o) -> Q (.ref (if cZ q p = true then b else a)) { s with heap := h', toks := tk }) : wpAny (model prog w) A (call (.builtin "min") [.ref a, .ref b]) Q E s := by
 have nm : (toString "min" ++ toString ".loop" : String) = "min.loop" := by decide
 refine call_function_tree PySem.F.kind_min PySem.F.plain_min PySem.F.entry_min (PySem.F.args_min2 _ _) ?_
 show wpAny _ A.in1 (Builtin.Builtins.bindParams "min" ["key", "default"] 0 ⟨[], []⟩ >>= _) _ _ s
 refine wpAny_bind (wpAny_of_eq (show Builtin.Builtins.bindParams "min" ["key", "default"] 0 ⟨[], []⟩ = pure [none, none] from rfl) ?_)
 show wpAny _ A.in1 (newTuple [.ref a, .ref b] >>= _) _ _ s
 refine wpAny_bind (wpAny_newObj_type ?_)
 have hT : (s.heap.push { cls := .type "tuple", data := .seq #[.ref a, .ref b] }).IsTuple s.heap.objs.size #[.ref a, .ref b] := ⟨_, Heap.get?_push_size _ rfl, rfl, 0, rfl⟩
 refine wpAny_bind (wpAny_pyIter_tuple hT ?_)
 show wpAny _ A.in1 (newList [] >>= _) _ _ _
 refine wpAny_bind (wpAny_newObj_type ?_)
 generalize e1 : s.heap.push { cls := .type "tuple", data := .seq #[.ref a, .ref b] } = h1 at hT
 have z1 : h1.objs.size = s.heap.objs.size + 1 := by rw [<- e1]; exact Heap.size_push ..
 have k1 : ∀ c o, s.heap.get? c = some o -> h1.get? c = some o := fun c o e => by rw [<- e1]; exact Heap.get?_push_of_some _ e
 dsimp only
 generalize e2 : h1.push { cls := .type "tuple_iterator", data := .fields #[.ref s.heap.objs.size, .int 0 0] } = h2
 have z2 : h2.objs.size = h1.objs.size + 1 := by rw [<- e2]; exact Heap.size_push ..
 have k2 : ∀ c o, h1.get? c = some o -> h2.get? c = some o := fun c o e => by rw [<- e2]; exact Heap.get?_push_of_some _ e
 have W := Walks.tuple (prog := prog) (w := w) (A := A.in1) hh h1.objs.size s.heap.objs.size (by rw [z1]; exact Nat.ne_of_lt (Nat.lt_succ_self _)) #[.ref a, .ref b]
 have pO : h2.IsTupleIter h1.objs.size s.heap.objs.size 0 /\ h2.IsTuple s.heap.objs.size #[.ref a, .ref b] := ⟨⟨_, by rw [<- e2]; exact Heap.get?_push_size _ rfl, rfl, rfl⟩, by rw [<- e2]; exact hT.push _⟩
 have zs : h2.objs.size ∉ [h1.objs.size, s.heap.objs.size] := fun z => by
  simp only [List.mem_cons, List.not_mem_nil, or_false] at z
  rcases z with z | z
  ·rw [z2] at z; exact Nat.succ_ne_self _ z
  ·rw [z2, z1] at z
   exact absurd z (by intro z; have : s.heap.objs.size < s.heap.objs.size + 1 + 1 := Nat.lt_succ_of_lt (Nat.lt_succ_self _); rw [z] at this; exact Nat.lt_irrefl _ this)
 have nS : h2.objs.size ∉ [h1.objs.size] := fun z => zs (by simp at z; simp [z])
 have up : ∀ c o, s.heap.get? c = some o -> c ∉ [h1.objs.size] /\ c ≠ h2.objs.size /\ (h2.push { cls := .type "list", data := .seq #[] }).get? c = some o := fun c o e => by
  have l1 := Heap.lt_size (k1 c o e)
  have l2 := Heap.lt_size (k2 c o (k1 c o e))
  exact ⟨fun z => by simp at z; rw [z] at l1; exact Nat.lt_irrefl _ l1, Nat.ne_of_lt l2, Heap.get?_push_of_some _ (k2 c o (k1 c o e))⟩
 let G : Heap -> Prop := fun h => fz h a p /\ fz h b q
 have qp : ∀ (x : Addr) (r : P2), fz s.heap x r -> x ∉ [h1.objs.size] /\ x ≠ h2.objs.size := fun x r hx => by
  obtain ⟨o, _, _, _, e, _⟩ := hx
  exact ⟨(up x o e).1, (up x o e).2.1⟩
 have hG : ∀ h h', G h -> (∀ b o, b ∉ [h1.objs.size] -> b ≠ h2.objs.size -> h.get? b = some o -> h'.get? b = some o) -> G h' := fun h h' g k => ⟨g.1.keep fun o e => k a o (qp a p ha).1 (qp a p ha).2 e, g.2.keep fun o e => k b o (qp b q hb).1 (qp b q hb).2 e⟩
 let bt : Nat -> Nat -> Bool := fun i j => cZ (if i = 0 then p else q) (if j = 0 then p else q)
 have GL : ∀ i v, (#[Value.ref a, Value.ref b] : Array Value)[i]? = some v -> (i = 0 /\ v = .ref a) ∨ (i = 1 /\ v = .ref b) := fun i v e => by
  match i, e with
  | 0, e => cases e; exact .inl ⟨rfl, rfl⟩
  | 1, e => cases e; exact .inr ⟨rfl, rfl⟩
  | i + 2, e => simp at e
 have jV : ∀ i j vi vj (s : Shared) (Q : Value -> Shared -> Prop) (E : Value -> Shared -> Prop), (#[Value.ref a, Value.ref b] : Array Value)[i]? = some vi -> (#[Value.ref a, Value.ref b] : Array Value)[j]? = some vj -> G s.heap -> Q (.bool (bt i j)) s -> wpAny (model prog w) A.in1 (richCompare .Lt vi vj) Q E s := by
  intro i j vi vj s Q E ei ej g hq
  rcases GL i vi ei with ⟨rfl, rfl⟩ | ⟨rfl, rfl⟩ <;> rcases GL j vj ej with ⟨rfl, rfl⟩ | ⟨rfl, rfl⟩
  ·exact uA g.1 g.1 hu hq
  ·exact uA g.1 g.2 hu hq
  ·exact uA g.2 g.1 hu hq
  ·exact uA g.2 g.2 hu hq
 have g0 : G (h2.push { cls := .type "list", data := .seq #[] }) := ⟨ha.keep fun o e => (up a o e).2.2, hb.keep fun o e => (up b o e).2.2⟩
 have oS : (h2.push { cls := .type "list", data := .seq #[] }).get? h2.objs.size = some { cls := .type "list", dict := none, data := .seq #[] 0, slots := #[] } := Heap.get?_push_size _ rfl
 have dm := W.frame 0 h2 (h2.push { cls := .type "list", data := .seq #[] }) pO fun b _ o q => Heap.get?_push_of_some _ q
 rw [nm]
 refine wpAny_pure ⟨plainId_quiet PySem.F.plain_min_loop _, ?_⟩
 refine codeAny_builtin PySem.F.entry_min_loop ?_
 rw [Around.under_plainId PySem.F.plain_min_loop _]
 show wpAny _ A.in1 (seqItems? (.ref h2.objs.size) >>= _) _ _ _
 refine wpAny_bind (wpAny_seqItems oS rfl ?_)
 show wpAny _ A.in1 (tryCatch (pyNext (.ref h1.objs.size)) _ >>= _) _ _ _
 refine wpAny_bind (wpAny_tryCatch (W.item 0 _ _ _ (by simp) dm fun v h3 tk pv cJ kp => ?_))
 have bI := kp _ _ nS oS
 show wpAny _ A.in1 (updateSeq h2.objs.size (fun _ => #[v, v]) >>= _) _ _ _
 refine wpAny_bind ?_
 refine wpAny_updateSeq bI rfl ?_
 rw [nm]
 have g3 : G h3 := hG _ _ g0 fun b o hw _ e => kp b o hw e
 refine wpAny_pure ⟨plainId_quiet PySem.F.plain_min_loop _, Ow W hG jV zs 1 0 _ v _ (by simp) (W.frame _ _ _ cJ fun b hf o e => ?_) (hG _ _ g3 fun b o _ cB e => (Heap.get?_update_other _ _ (Ne.symm cB)).trans e) pv (Heap.get?_update_self _ bI rfl) fun v2 h4 Oy p4 k4 => ?_⟩
 ·exact (Heap.get?_update_other _ _ (fun z : h2.objs.size = b => zs (by rw [z]; exact hf))).trans e
 ·have ev : v2 = .ref (if cZ q p = true then b else a) := by
   have e4 : (#[Value.ref a, Value.ref b] : Array Value)[argBest bt 1]? = some v2 := by simpa using p4
   have Oz : argBest bt 1 = if cZ q p = true then 1 else 0 := by
    show (if bt 1 0 then 1 else 0) = _
    rfl
   rw [Oz] at e4
   by_cases hl : cZ q p = true
   ·rw [if_pos hl] at e4 ⊢; cases e4; rfl
   ·rw [if_neg hl] at e4 ⊢; cases e4; rfl
  subst ev
  refine h h4 Oy fun c o e => ?_
  obtain ⟨u1, u2, u3⟩ := up c o e
  exact k4 c o u1 u2 ((Heap.get?_update_other _ _ (Ne.symm u2)).trans (kp c o u1 u3))
end
section
variable {X : Cx}
noncomputable def qC (H : Hp) (Q : VK) (xs : List V) : Prop := ∃ (a b : Addr) (p q : P2), xs = [.ref a, .ref b] /\ H a = some (.tup [.int p.1, .int p.2]) /\ H b = some (.tup [.int q.1, .int q.2]) /\ Q (.ref (if cZ q p = true then b else a)) H
theorem OA (hc : X.calm = true) (hu : X.A.units + 1 < cLine) : eg X (.builtin "min") (fun xs H Q => qC H Q xs) := by
 intro pins s σ H xs us Q I r h
 obtain ⟨a, b, p, q, rfl, ha, hb, hq⟩ := h
 obtain ⟨u, v, rfl, ru, rv⟩ := vals2 r
 cases ru
 cases rv
 have pr : ∀ (x : Addr) (r : P2), H x = some (.tup [.int r.1, .int r.2]) -> fz s.heap x r := fun x r hx => by
  obtain ⟨_, af, hv, hi⟩ := (show bb X.prog X.w H s.heap x (.tup [.int r.1, .int r.2]) from I.ag x _ hx)
  obtain ⟨u1, u2, rfl, ⟨t1, rfl⟩, ⟨t2, rfl⟩⟩ := vals2 hv
  obtain ⟨o, ho, dq, n, hd⟩ := hi
  exact ⟨o, t1, t2, n, ho, dq, hd⟩
 exact Ox (I.ok.hd hc) (pr a p ha) (pr b q hb) (show X.A.units + 1 < cLine from hu) fun h' tk k => ⟨.ref _, H, I.kept k, rfl, hq⟩
end
end Gz
namespace zB
open PySem L2 Gz
local macro_rules | `(tactic| walk_at "gzs") => `(tactic| simp only [tL, tM, t8, t7, qj, lN, pG, pH, pI, sA, qi, ua, uf, pB, gC, fm, fo, List.map_cons, List.map_nil, qr, ui, qq, my, uk, qC, gm, gB, qx, k8, oQ, lz, ic, oY, kZ, tC, oP, oN, k9, bG, lH, lD, jI, pe, oA, oB, tB, oE, oF, oG, oI, rW, oJ, oM, oO, rI, fe, rU, o4, se, sQ, sR, sS, sT, sU, sJ, sL, sM, sN, sO, sP, ite_tt, ite_ff, L2.start, sV, sW, List.map_cons, List.map_nil, List.length_cons, List.length_nil, List.replicate, List.append_nil, List.nil_append, List.cons_append, List.getElem?_cons_zero, List.getElem?_cons_succ, List.set_cons_zero, List.set_cons_succ, Option.some.injEq, V.int.injEq, V.bl.injEq, V.ref.injEq, List.cons.injEq, exists_eq_left, exists_eq_left', exists_and_left, true_and, and_true, decide_eq_true_eq, Nat.zero_add, Nat.sub_self, Nat.add_one_sub_one, Nat.reduceAdd, Nat.reduceSub, reduceCtorEq, decide_true, decide_false, Bool.not_true, Bool.not_false, Bool.not_eq_true', decide_eq_false_iff_not, false_and, exists_false, and_assoc, o9, pd, pq, gC, pA, so, sX, sY, sZ, ↓reduceIte, not_false_eq_true, not_true_eq_false, lU, lR, tE, lV, lh, lg, pR, gm, gB, lX, oU, lj, tR, tS, lB, o7, lF, pf, sk, si, sj, sm, pC, tU, tV, tW, lA, l7, qb, lY, qc, Option.join_some])
local macro_rules | `(tactic| walk_at "gzd") => `(tactic| dsimp only [tL, tM, t8, t7, qj, lN, pG, pH, pI, sA, qi, ua, uf, pB, gC, fm, fo, List.map_cons, List.map_nil, qr, ui, qq, my, uk, qC, gm, gB, qx, k8, oQ, lz, ic, oY, kZ, tC, oP, oN, k9, bG, lH, lD, jI, pe, oA, oB, tB, oE, oF, oG, oI, rW, oJ, oM, oO, rI, fe, rU, o4, se, sQ, sR, sS, sT, sU, sJ, sL, sM, sN, sO, sP, ite_tt, ite_ff, L2.start, sV, sW, List.map_cons, List.map_nil, List.length_cons, List.length_nil, List.replicate, List.append_nil, List.nil_append, List.cons_append, List.getElem?_cons_zero, List.getElem?_cons_succ, List.set_cons_zero, List.set_cons_succ, Option.some.injEq, V.int.injEq, V.bl.injEq, V.ref.injEq, List.cons.injEq, exists_eq_left, exists_eq_left', exists_and_left, true_and, and_true, decide_eq_true_eq, Nat.zero_add, Nat.sub_self, Nat.add_one_sub_one, Nat.reduceAdd, Nat.reduceSub, reduceCtorEq, decide_true, decide_false, Bool.not_true, Bool.not_false, Bool.not_eq_true', decide_eq_false_iff_not, false_and, exists_false, and_assoc, o9, pd, pq, gC, pA, so, sX, sY, sZ, ↓reduceIte, not_false_eq_true, not_true_eq_false, lU, lR, tE, lV, lh, lg, pR, gm, gB, lX, oU, lj, tR, tS, lB, o7, lF, pf, sk, si, sj, sm, pC, tU, tV, tW, lA, l7, qb, lY, qc, Option.join_some])
local macro_rules | `(tactic| walk_at "gzp") => `(tactic| first | (walk_at "gzd"; try walk_at "gzs") | walk_at "gzs")
local macro_rules | `(tactic| walk_at "gz") => `(tactic| try walk_at "gzp")
local macro_rules | `(tactic| walk_at "gza") => `(tactic| simp only [tL, tM, t8, t7, qj, lN, pG, pH, pI, sA, qi, ua, uf, pB, gC, fm, fo, List.map_cons, List.map_nil, qr, ui, qq, my, uk, qC, gm, gB, qx, k8, oQ, lz, ic, oY, kZ, tC, oP, oN, k9, bG, lH, lD, jI, pe, oA, oB, tB, oE, oF, oG, oI, rW, oJ, oM, oO, rI, fe, rU, o4, se, sQ, sR, sS, sT, sU, sJ, sL, sM, sN, sO, sP, ite_tt, ite_ff, L2.start, sV, sW, List.map_cons, List.map_nil, List.length_cons, List.length_nil, List.replicate, List.append_nil, List.nil_append, List.cons_append, List.getElem?_cons_zero, List.getElem?_cons_succ, List.set_cons_zero, List.set_cons_succ, Option.some.injEq, V.int.injEq, V.bl.injEq, V.ref.injEq, List.cons.injEq, exists_eq_left, exists_eq_left', exists_and_left, true_and, and_true, decide_eq_true_eq, Nat.zero_add, Nat.sub_self, Nat.add_one_sub_one, Nat.reduceAdd, Nat.reduceSub, reduceCtorEq, decide_true, decide_false, Bool.not_true, Bool.not_false, Bool.not_eq_true', decide_eq_false_iff_not, false_and, exists_false, and_assoc, o9, pd, pq, gC, pA, so, sX, sY, sZ, ↓reduceIte, not_false_eq_true, not_true_eq_false, lU, lR, tE, lV, lh, lg, pR, gm, gB, lX, oU, lj, tR, tS, lB, o7, lF, pf, sk, si, sj, sm, pC, tU, tV, tW, lA, l7, qb, lY, qc, Option.join_some] at *)
local macro_rules | `(tactic| walk_at "sd") => `(tactic| (and_intros <;> first | assumption | exact tj (by decide) | exact tj (Le _) | exact Ea (by decide) (by decide) | exact ⟨by decide, by decide, by decide⟩ | decide | omega))
local macro_rules | `(tactic| walk_at "gzn") => `(tactic| ((try walk_at "gzd"); (try simp only [tL, tM, t8, t7, qj, lN, pG, pH, pI, sA, qi, ua, uf, pB, gC, fm, fo, List.map_cons, List.map_nil, qr, ui, qq, my, uk, qC, gm, gB, qx, k8, oQ, lz, ic, oY, kZ, tC, oP, oN, k9, bG, lH, lD, jI, pe, oA, oB, tB, oE, oF, oG, oI, rW, oJ, oM, oO, rI, fe, rU, o4, se, sQ, sR, sS, sT, sU, sJ, sL, sM, sN, sO, sP, ite_tt, ite_ff, L2.start, sV, sW, List.map_cons, List.map_nil, List.length_cons, List.length_nil, List.replicate, List.append_nil, List.nil_append, List.cons_append, List.getElem?_cons_zero, List.getElem?_cons_succ, List.set_cons_zero, List.set_cons_succ, Option.some.injEq, V.int.injEq, V.bl.injEq, V.ref.injEq, List.cons.injEq, exists_eq_left, exists_eq_left', exists_and_left, true_and, and_true, decide_eq_true_eq, Nat.zero_add, Nat.sub_self, Nat.add_one_sub_one, Nat.reduceAdd, Nat.reduceSub, reduceCtorEq, decide_true, decide_false, Bool.not_true, Bool.not_false, Bool.not_eq_true', decide_eq_false_iff_not, false_and, exists_false, and_assoc, o9, pd, pq, gC, pA, so, sX, sY, sZ, ↓reduceIte, not_false_eq_true, not_true_eq_false, lU, lR, tE, lV, lh, lg, pR, gm, gB, lX, oU, lj, tR, tS, lB, o7, lF, pf, sk, si, sj, sm, pC, tU, tV, tW, lA, l7, qb, lY, qc, Option.join_some, Int.reducePow, Int.reduceToNat, Int.reduceMul, Int.reduceAdd])))
noncomputable def fU (H : Hp) (v : V) (m : Mk) : Prop := ∃ (t p : Addr), v = .ref t /\ H t = some (.tup [.int m.1, .ref p]) /\ H p = some (.tup [ev m.2.1, ev m.2.2])
theorem fU.same {H H' : Hp} {v : V} {m : Mk} (h : fU H v m) (s : aj H H') : fU H' v m := let ⟨t, p, e, a, b⟩ := h; ⟨t, p, e, s _ _ a, s _ _ b⟩
noncomputable def top (i : Nat) : Stmt := PySem.Challenge.pw_gaze_k41_quarrels.main.body.getD i (.Pass ⟨0, 0, 0, 0⟩)
noncomputable abbrev mE : Stmt := top 7
noncomputable abbrev mF : Stmt := top 8
noncomputable abbrev mG : Stmt := top 9
noncomputable abbrev mH : Stmt := top 11
noncomputable abbrev mI : Stmt := top 12
noncomputable abbrev mJ : Stmt := top 13
noncomputable abbrev mK : Stmt := top 14
noncomputable abbrev mL : Stmt := top 16
noncomputable abbrev mM : Stmt := top 17
noncomputable abbrev mO : Stmt := top 18
noncomputable abbrev mP : Stmt := top 19
noncomputable abbrev mQ : Stmt := top 21
noncomputable abbrev mR : Stmt := top 22
noncomputable abbrev mS : Stmt := top 23
noncomputable abbrev mT : Stmt := top 24
noncomputable abbrev mU : Stmt := inClass (top 28) 0
noncomputable abbrev mV : Stmt := inClass (top 28) 1
noncomputable abbrev mW : Stmt := inClass (top 28) 2
noncomputable abbrev mX : Stmt := inClass (top 28) 3
noncomputable abbrev mY : Stmt := inClass (top 28) 4
noncomputable abbrev mZ : Stmt := inClass (top 28) 6
noncomputable abbrev m5 : Stmt := inClass (top 28) 10
noncomputable abbrev m6 : Stmt := inClass (top 28) 11
noncomputable abbrev m7 : Stmt := top 30
noncomputable abbrev m8 : Stmt := top 31
noncomputable abbrev m9 : Stmt := top 32
noncomputable abbrev nc : Stmt := top 33
noncomputable abbrev ng : Stmt := top 34
noncomputable abbrev nh : Stmt := top 35
noncomputable abbrev ni : Stmt := top 36
noncomputable abbrev nj : Stmt := top 37
noncomputable abbrev nk : Stmt := top 38
noncomputable abbrev nq : Stmt := top 39
noncomputable abbrev nr : Stmt := top 40
noncomputable abbrev nu : Stmt := top 41
noncomputable abbrev nv : Stmt := top 42
noncomputable abbrev ny : Stmt := top 43
noncomputable abbrev eU : Stmt := top 44
theorem OB : aU ["lo", "hi"] ["lo", "hi"] (av mE) := ⟨rfl, rfl, rfl, by decide +kernel, rfl, by decide +kernel, by decide +kernel⟩
theorem zC : aU ["one", "other", "lo", "hi"] ["one", "other"] (av mF) := ⟨rfl, rfl, rfl, by decide +kernel, rfl, by decide +kernel, by decide +kernel⟩
theorem uB : aU ["some", "whole", "one"] ["some"] (av mG) := ⟨rfl, rfl, rfl, by decide +kernel, rfl, by decide +kernel, by decide +kernel⟩
theorem OD : aU ["one", "other"] ["one", "other"] (av mH) := ⟨rfl, rfl, rfl, by decide +kernel, rfl, by decide +kernel, by decide +kernel⟩
theorem OE : aU ["one", "by"] ["one", "by"] (av mI) := ⟨rfl, rfl, rfl, by decide +kernel, rfl, by decide +kernel, by decide +kernel⟩
theorem nz : aU ["steps", "marks", "tops", "number", "mark", "turn"] ["steps", "marks"] (av mJ) := ⟨rfl, rfl, rfl, by decide +kernel, rfl, by decide +kernel, by decide +kernel⟩
theorem uC : aU ["tops", "marks", "number", "mark", "top"] ["tops", "marks"] (av mK) := ⟨rfl, rfl, rfl, by decide +kernel, rfl, by decide +kernel, by decide +kernel⟩
theorem OF : aU ["board", "kind", "turn"] ["board", "kind", "turn"] (av mL) := ⟨rfl, rfl, rfl, by decide +kernel, rfl, by decide +kernel, by decide +kernel⟩
theorem GN : aU ["board", "claim", "part"] ["board", "claim"] (av mM) := ⟨rfl, rfl, rfl, by decide +kernel, rfl, by decide +kernel, by decide +kernel⟩
theorem OG : aU ["claim", "kind", "turn"] ["claim", "kind", "turn"] (av mO) := ⟨rfl, rfl, rfl, by decide +kernel, rfl, by decide +kernel, by decide +kernel⟩
theorem GO : aU ["board", "claim", "own"] ["board", "claim"] (av mP) := ⟨rfl, rfl, rfl, by decide +kernel, rfl, by decide +kernel, by decide +kernel⟩
theorem OH : aU ["board", "eye"] ["board", "eye"] (av mQ) := ⟨rfl, rfl, rfl, by decide +kernel, rfl, by decide +kernel, by decide +kernel⟩
theorem OI : aU ["board"] ["board"] (av mR) := ⟨rfl, rfl, rfl, by decide +kernel, rfl, by decide +kernel, by decide +kernel⟩
theorem iL : aU ["steps", "groups", "found", "name", "marks", "tops", "beside", "others", "pair"] ["steps", "groups"] (av mS) := ⟨rfl, rfl, rfl, by decide +kernel, rfl, by decide +kernel, by decide +kernel⟩
theorem zD : aU ["board", "found", "pairs"] ["board"] (av mT) := ⟨rfl, rfl, rfl, by decide +kernel, rfl, by decide +kernel, by decide +kernel⟩
theorem OJ : aU ["self", "eyes", "turns", "up", "down", "most"] ["self", "eyes", "turns", "up", "down", "most"] (av mU) := ⟨rfl, rfl, rfl, by decide +kernel, rfl, by decide +kernel, by decide +kernel⟩
theorem OL : aU ["self", "eye"] ["self", "eye"] (av mV) := ⟨rfl, rfl, rfl, by decide +kernel, rfl, by decide +kernel, by decide +kernel⟩
theorem OM : aU ["self", "turn"] ["self", "turn"] (av mW) := ⟨rfl, rfl, rfl, by decide +kernel, rfl, by decide +kernel, by decide +kernel⟩
theorem ON : aU ["self", "eye", "turn", "lo", "hi"] ["self", "eye", "turn", "lo", "hi"] (av mX) := ⟨rfl, rfl, rfl, by decide +kernel, rfl, by decide +kernel, by decide +kernel⟩
theorem OO : aU ["self", "eye", "turn"] ["self", "eye", "turn"] (av mY) := ⟨rfl, rfl, rfl, by decide +kernel, rfl, by decide +kernel, by decide +kernel⟩
theorem OP : aU ["self"] ["self"] (av mZ) := ⟨rfl, rfl, rfl, by decide +kernel, rfl, by decide +kernel, by decide +kernel⟩
theorem OQ : aU ["self", "eye", "turn"] ["self", "eye", "turn"] (av m5) := ⟨rfl, rfl, rfl, by decide +kernel, rfl, by decide +kernel, by decide +kernel⟩
theorem OR : aU ["self", "eye", "turn"] ["self", "eye", "turn"] (av m6) := ⟨rfl, rfl, rfl, by decide +kernel, rfl, by decide +kernel, by decide +kernel⟩
theorem zE : aU ["_law_script", "_law_k", "_law_many", "_law_cell"] ["_law_script", "_law_k", "_law_many"] (av m7) := ⟨rfl, rfl, rfl, by decide +kernel, rfl, by decide +kernel, by decide +kernel⟩
theorem zF : aU ["_law_script", "_law_k", "_law_many", "_law_cell"] ["_law_script", "_law_k", "_law_many"] (av m8) := ⟨rfl, rfl, rfl, by decide +kernel, rfl, by decide +kernel, by decide +kernel⟩
theorem b6 : aU ["_law_script", "_law_way", "_law_eyes", "_law_turns", "_law_most", "_law_far", "_law_up", "_law_down"] ["_law_script"] (av m9) := ⟨rfl, rfl, rfl, by decide +kernel, rfl, by decide +kernel, by decide +kernel⟩
theorem nA : aU ["_law_script", "_law_shape_here", "_law_size", "_law_number", "_law_course_here", "_law_k"] ["_law_script", "_law_shape_here"] (av nc) := ⟨rfl, rfl, rfl, by decide +kernel, rfl, by decide +kernel, by decide +kernel⟩
theorem fV : aU ["_law_script", "_law_k", "_law_far", "_law_number", "_law_false", "_law_by", "_law_lo", "_law_hi", "_law_end"] ["_law_script", "_law_k", "_law_far", "_law_number", "_law_false"] (av ng) := ⟨rfl, rfl, rfl, by decide +kernel, rfl, by decide +kernel, by decide +kernel⟩
theorem fW : aU ["_law_script", "_law_shape_here", "_law_course_here", "_law_told_here", "_law_dense", "_law_limit", "_law_eye", "_law_false", "_law_turn", "_law_k"] ["_law_script", "_law_shape_here", "_law_course_here"] (av nh) := ⟨rfl, rfl, rfl, by decide +kernel, rfl, by decide +kernel, by decide +kernel⟩
theorem qD : aU ["_law_script", "_law_shape_here", "_law_told_here", "_law_board_here", "_law_spots", "_law_eye", "_law_turn"] ["_law_script", "_law_shape_here", "_law_told_here"] (av ni) := ⟨rfl, rfl, rfl, by decide +kernel, rfl, by decide +kernel, by decide +kernel⟩
theorem OS : aU ["_law_found"] ["_law_found"] (av nj) := ⟨rfl, rfl, rfl, by decide +kernel, rfl, by decide +kernel, by decide +kernel⟩
theorem GP : aU ["_law_board_here", "_law_told_here", "_law_spots"] ["_law_board_here", "_law_told_here"] (av nk) := ⟨rfl, rfl, rfl, by decide +kernel, rfl, by decide +kernel, by decide +kernel⟩
theorem GQ : aU ["_law_script", "_law_shape_here", "_law_course_here", "_law_told_here", "_law_board_here", "_law_spot"] ["_law_script", "_law_shape_here", "_law_course_here", "_law_told_here", "_law_board_here"] (av nq) := ⟨rfl, rfl, rfl, by decide +kernel, rfl, by decide +kernel, by decide +kernel⟩
theorem OT : aU ["_law_shape_here", "_law_one", "_law_other"] ["_law_shape_here", "_law_one", "_law_other"] (av nr) := ⟨rfl, rfl, rfl, by decide +kernel, rfl, by decide +kernel, by decide +kernel⟩
theorem zG : aU ["_law_shape_here", "_law_told_here", "_law_one", "_law_other", "_law_hi", "_law_lo"] ["_law_shape_here", "_law_told_here", "_law_one", "_law_other"] (av nu) := ⟨rfl, rfl, rfl, by decide +kernel, rfl, by decide +kernel, by decide +kernel⟩
theorem uD : aU ["_law_shape_here", "_law_told_here", "_law_pairs_here", "_law_one", "_law_other"] ["_law_shape_here", "_law_told_here"] (av nv) := ⟨rfl, rfl, rfl, by decide +kernel, rfl, by decide +kernel, by decide +kernel⟩
theorem uE : aU ["_law_board_here", "_law_shape_here", "_law_told_here", "_law_due", "_law_found", "_law_pair"] ["_law_board_here", "_law_shape_here", "_law_told_here"] (av ny) := ⟨rfl, rfl, rfl, by decide +kernel, rfl, by decide +kernel, by decide +kernel⟩
theorem qE : aU ["_law_script", "_law_shape_here", "_law_course_here", "_law_told_here", "_law_board_here"] ["_law_script"] (av eU) := ⟨rfl, rfl, rfl, by decide +kernel, rfl, by decide +kernel, by decide +kernel⟩
set_option genInjectivity false
set_option genSizeOf false
structure Tx (K : PySem.W.Frag) (mg : Str -> Option Value) where
 iM : Addr
 uF : FuncData
 kx : aS K "is_crossed" "is_crossed" mE iM uF
 zH : mg "is_crossed" = some (.ref iM)
 qF : Binds K uF ["lo", "hi"] []
 iN : Addr
 uG : FuncData
 nB : aS K "meet" "meet" mF iN uG
 GR : mg "meet" = some (.ref iN)
 uH : Binds K uG ["one", "other"] []
 iO : Addr
 uI : FuncData
 nC : aS K "common" "common" mG iO uI
 GS : mg "common" = some (.ref iO)
 uJ : Binds K uI ["some"] []
 iP : Addr
 uK : FuncData
 iQ : aS K "lesser" "lesser" mH iP uK
 uL : mg "lesser" = some (.ref iP)
 nD : Binds K uK ["one", "other"] []
 iR : Addr
 uM : FuncData
 ky : aS K "lifted" "lifted" mI iR uM
 zI : mg "lifted" = some (.ref iR)
 qG : Binds K uM ["one", "by"] []
 iS : Addr
 uN : FuncData
 nE : aS K "ceilings" "ceilings" mJ iS uN
 GU : mg "ceilings" = some (.ref iS)
 uO : Binds K uN ["steps", "marks"] []
 iT : Addr
 uP : FuncData
 nF : aS K "crossing" "crossing" mK iT uP
 GV : mg "crossing" = some (.ref iT)
 uQ : Binds K uP ["tops", "marks"] []
 iU : Addr
 uR : FuncData
 nG : aS K "has_part" "has_part" mL iU uR
 GW : mg "has_part" = some (.ref iU)
 uS : Binds K uR ["board", "kind", "turn"] []
 iV : Addr
 uT : FuncData
 nH : aS K "check_claim" "check_claim" mM iV uT
 GX : mg "check_claim" = some (.ref iV)
 uU : Binds K uT ["board", "claim"] []
 iW : Addr
 uV : FuncData
 nI : aS K "stretches_of" "stretches_of" mO iW uV
 GY : mg "stretches_of" = some (.ref iW)
 uW : Binds K uV ["claim", "kind", "turn"] []
 iX : Addr
 uX : FuncData
 nJ : aS K "paces" "paces" mP iX uX
 GZ : mg "paces" = some (.ref iX)
 uY : Binds K uX ["board", "claim"] []
 iY : Addr
 uZ : FuncData
 nK : aS K "marks_of" "marks_of" mQ iY uZ
 G0 : mg "marks_of" = some (.ref iY)
 u7 : Binds K uZ ["board", "eye"] []
 iZ : Addr
 u9 : FuncData
 nM : aS K "groups_of" "groups_of" mR iZ u9
 G1 : mg "groups_of" = some (.ref iZ)
 vc : Binds K u9 ["board"] []
 i0 : Addr
 vd : FuncData
 nN : aS K "clashes" "clashes" mS i0 vd
 G2 : mg "clashes" = some (.ref i0)
 ve : Binds K vd ["steps", "groups"] []
 i3 : Addr
 vf : FuncData
 kz : aS K "quarrels" "quarrels" mT i3 vf
 zJ : mg "quarrels" = some (.ref i3)
 qH : Binds K vf ["board"] []
 i4 : Addr
 vg : FuncData
 qI : aS K "__init__" "Board.__init__" mU i4 vg
 vh : Binds K vg ["self", "eyes", "turns", "up", "down", "most"] []
 i5 : Addr
 vk : FuncData
 qJ : aS K "has_eye" "Board.has_eye" mV i5 vk
 vl : Binds K vk ["self", "eye"] []
 i6 : Addr
 vm : FuncData
 qK : aS K "has_turn" "Board.has_turn" mW i6 vm
 kA : Binds K vm ["self", "turn"] []
 i7 : Addr
 vn : FuncData
 qL : aS K "tell" "Board.tell" mX i7 vn
 qM : Binds K vn ["self", "eye", "turn", "lo", "hi"] []
 i8 : Addr
 vo : FuncData
 qN : aS K "hush" "Board.hush" mY i8 vo
 vq : Binds K vo ["self", "eye", "turn"] []
 i9 : Addr
 vu : FuncData
 qO : aS K "tellings" "Board.tellings" mZ i9 vu
 qP : Binds K vu ["self"] []
 ja : Addr
 vw : FuncData
 qQ : aS K "check_spot" "Board.check_spot" m5 ja vw
 vx : Binds K vw ["self", "eye", "turn"] []
 jb : Addr
 vy : FuncData
 qR : aS K "check_word" "Board.check_word" m6 jb vy
 vz : Binds K vy ["self", "eye", "turn"] []
 jc : Addr
 vA : FuncData
 br : aS K "_law_pick" "_law_pick" m7 jc vA
 bL : mg "_law_pick" = some (.ref jc)
 bD : Binds K vA ["_law_script", "_law_k", "_law_many"] []
 jd : Addr
 vB : FuncData
 je : aS K "_law_wide" "_law_wide" m8 jd vB
 vC : mg "_law_wide" = some (.ref jd)
 nO : Binds K vB ["_law_script", "_law_k", "_law_many"] []
 jf : Addr
 vD : FuncData
 nP : aS K "_law_shape" "_law_shape" m9 jf vD
 G3 : mg "_law_shape" = some (.ref jf)
 vE : Binds K vD ["_law_script"] []
 jg : Addr
 vF : FuncData
 nQ : aS K "_law_course" "_law_course" nc jg vF
 G4 : mg "_law_course" = some (.ref jg)
 vG : Binds K vF ["_law_script", "_law_shape_here"] []
 jh : Addr
 vH : FuncData
 kB : aS K "_law_word" "_law_word" ng jh vH
 zK : mg "_law_word" = some (.ref jh)
 qS : Binds K vH ["_law_script", "_law_k", "_law_far", "_law_number", "_law_false"] []
 ji : Addr
 vI : FuncData
 nR : aS K "_law_words" "_law_words" nh ji vI
 G5 : mg "_law_words" = some (.ref ji)
 vJ : Binds K vI ["_law_script", "_law_shape_here", "_law_course_here"] []
 jk : Addr
 vK : FuncData
 nT : aS K "_law_board" "_law_board" ni jk vK
 G6 : mg "_law_board" = some (.ref jk)
 vL : Binds K vK ["_law_script", "_law_shape_here", "_law_told_here"] []
 jl : Addr
 vM : FuncData
 kC : aS K "_law_whole" "_law_whole" nj jl vM
 zL : mg "_law_whole" = some (.ref jl)
 qT : Binds K vM ["_law_found"] []
 jm : Addr
 vN : FuncData
 nU : aS K "_law_same" "_law_same" nk jm vN
 G7 : mg "_law_same" = some (.ref jm)
 vO : Binds K vN ["_law_board_here", "_law_told_here"] []
 jn : Addr
 vP : FuncData
 nV : aS K "_law_deed" "_law_deed" nq jn vP
 G8 : mg "_law_deed" = some (.ref jn)
 vQ : Binds K vP ["_law_script", "_law_shape_here", "_law_course_here", "_law_told_here", "_law_board_here"] []
 jo : Addr
 vR : FuncData
 nW : aS K "_law_above" "_law_above" nr jo vR
 G9 : mg "_law_above" = some (.ref jo)
 vS : Binds K vR ["_law_shape_here", "_law_one", "_law_other"] []
 jq : Addr
 vT : FuncData
 nX : aS K "_law_against" "_law_against" nu jq vT
 Ha : mg "_law_against" = some (.ref jq)
 vU : Binds K vT ["_law_shape_here", "_law_told_here", "_law_one", "_law_other"] []
 jr : Addr
 vV : FuncData
 nY : aS K "_law_pairs" "_law_pairs" nv jr vV
 Hb : mg "_law_pairs" = some (.ref jr)
 vW : Binds K vV ["_law_shape_here", "_law_told_here"] []
 jt : Addr
 vX : FuncData
 kD : aS K "_law_told" "_law_told" ny jt vX
 zM : mg "_law_told" = some (.ref jt)
 qU : Binds K vX ["_law_board_here", "_law_shape_here", "_law_told_here"] []
 fX : Addr
 qV : FuncData
 qW : aS K "law" "law" eU fX qV
 OU : mg "law" = some (.ref fX)
 zN : Binds K qV ["_law_script"] []
 Hc : mg "bool" = none
 zO : mg "enumerate" = none
 Hd : mg "int" = none
 qX : mg "isinstance" = none
 gU : mg "len" = none
 qY : mg "list" = none
 vY : mg "max" = none
 ju : mg "min" = none
 gW : mg "range" = none
 He : mg "set" = none
 qZ : mg "sorted" = none
 Hf : mg "tuple" = none
 q8 : Addr
 OV : mg "GazeError" = some (.ref q8)
 dA : Addr
 vZ : mg "NoBoard" = some (.ref dA)
 cF : Addr
 v3 : mg "NoTelling" = some (.ref cF)
 dB : Addr
 Hg : mg "NoClaim" = some (.ref dB)
 aE : Addr
 Hh : mg "Board" = some (.ref aE)
 bw : eh K aE
 jv : el K aE "eyes"
 jw : el K aE "turns"
 kE : el K aE "up"
 kF : el K aE "down"
 nZ : el K aE "most"
 fA : el K aE "told"
 n3 : Mk K aE i4
 Hi : Meth K aE "has_eye" i5
 q9 : Meth K aE "has_turn" i6
 zP : Meth K aE "tell" i7
 Hj : Meth K aE "hush" i8
 zQ : Meth K aE "tellings" i9
 Hk : Meth K aE "check_spot" ja
 Hl : Meth K aE "check_word" jb
 v5 : XC K dA
 v7 : XC K cF
 Hm : XC K dB
 Hn : ∃ t, mg "EYES_AT_MOST" = some (.int 7 t)
 Ho : ∃ t, mg "TURNS_AT_MOST" = some (.int 12 t)
set_option genInjectivity true
set_option genSizeOf true
section
seal L2.PE L2.PS L2.bo L2.PA
variable {P : Program} {w : World} {K : PySem.W.Frag} {mg : Str -> Option Value} {base : Heap}
noncomputable def OW (K : PySem.W.Frag) : Sp := fun vs H Q _ => ∃ (a : Addr) (ns : List Int) (k m : Int), vs = [.ref a, .int k, .int m] /\ ai K H a (ns.map V.int) /\ dP ns /\ (-1000000 <= k /\ k <= 1000000) /\ 0 < m /\ ∀ p : Int, 0 <= p -> p < m -> Q (.int p) H
theorem bS (T : Tx K mg) : aL P w K mg base (aM P w) 1 T.jc T.vA ["_law_script", "_law_k", "_law_many"] (OW K) := by
 refine okN T.br zE (fun vs H Q E h => ?_) (fun aD A outer s H vs Q E hr h => ?_)
 ·obtain ⟨a, ns, k, m, rfl, _⟩ := h
  rfl
 ·obtain ⟨a, ns, k, m, rfl, hS, hn, hk, hm, q⟩ := h
  refine ⟨_, (ao (aF (i := 3) zE.nd rfl (Or.inl rfl) ae)
  (ao (bc (bN ig (bX jG (by rfl) T.gU ik (aa (pv 0) ah)) ae (bp _)) (ax (aF (i := 3) zE.nd rfl (Or.inl rfl) (au az (pv 0) (aA gu (pv 1) (bX jG (by rfl) T.gU ik (aa (pv 0) ah))) (fun _ _ => rfl)))) bf)
  (ax (aV (aA gu (aA gu (aA gu (aA qf (aA a8 (pv 3) ae) (aA a8 (aA a8 (pv 3) ae) (aA qf (pv 1) (pv 1)))) ae) ae) (pv 2)))))), ?_⟩
  walk_at "gz"
  refine ⟨_, jQ hS, ?_⟩
  rw [List.length_map]
  have pm := Mb hn hk
  have fin : ∀ x : Int, Q (.int (x % 2147483629 % 999983 % m)) H := fun x => q _ (Int.emod_nonneg _ (by omega)) (Int.emod_lt_of_pos _ hm)
  split
  ·rename_i h
   refine ⟨_, jQ hS, ?_⟩
   rw [List.length_map]
   refine ⟨h, a9 hS (E9 h) ?_⟩
   walk_at "gz"
   exact ⟨pm.1, pm.2, by decide, by decide, hm, fin _⟩
  ·rename_i h
   have e : dt ns k = 0 := if_neg h
   rw [e] at pm
   exact ⟨pm.1, pm.2, by decide, by decide, hm, fin _⟩
noncomputable def OX (K : PySem.W.Frag) : Sp := fun vs H Q _ => ∃ (a : Addr) (ns : List Int) (k m : Int), vs = [.ref a, .int k, .int m] /\ ai K H a (ns.map V.int) /\ dP ns /\ (-1000000 <= k /\ k <= 1000000) /\ 0 < m /\ ∀ p : Int, 0 <= p -> p < m -> Q (.int p) H
theorem zR (T : Tx K mg) : aL P w K mg base (aM P w) 2 T.jd T.vB ["_law_script", "_law_k", "_law_many"] (OX K) := by
 refine okN T.je zF (fun vs H Q E h => ?_) (fun aD A outer s H vs Q E hr h => ?_)
 ·obtain ⟨a, ns, k, m, rfl, _⟩ := h
  rfl
 ·obtain ⟨a, ns, k, m, rfl, hS, hn, hk, hm, q⟩ := h
  refine ⟨_, (ao (aF (i := 3) zF.nd rfl (Or.inl rfl) ae)
  (ao (bc (bN ig (bX jG (by rfl) T.gU ik (aa (pv 0) ah)) ae (bp _)) (ax (aF (i := 3) zF.nd rfl (Or.inl rfl) (au az (pv 0) (aA gu (pv 1) (bX jG (by rfl) T.gU ik (aa (pv 0) ah))) (fun _ _ => rfl)))) bf)
  (ax (aV (aA gu (aA a8 (aG (bS T) (hr.mono (by decide)) rfl T.bL T.br.kp T.bD .nil aC (aa (pv 0) (aa (pv 1) (aa ae ah)))) (aA qf (aA qf (aA qf ae (pv 3)) (pv 3)) (pv 3))) (pv 2)))))), ?_⟩
  walk_at "gz"
  refine ⟨_, jQ hS, ?_⟩
  rw [List.length_map]
  have pm := Mc hn k
  have fin : ∀ x : Int, Q (.int (x % m)) H := fun x => q _ (Int.emod_nonneg _ (by omega)) (Int.emod_lt_of_pos _ hm)
  split
  ·rename_i h
   refine ⟨_, jQ hS, ?_⟩
   rw [List.length_map]
   refine ⟨h, a9 hS (E9 h) ?_⟩
   walk_at "gz"
   refine ⟨a, ns, k, 999983, rfl, hS, hn, hk, by decide, fun p _ _ => ?_⟩
   walk_at "gz"
   exact ⟨pm.1, pm.2.1, pm.2.2, hm, fin _⟩
  ·rename_i h
   have e : dt ns k = 0 := if_neg h
   rw [e] at pm
   refine ⟨a, ns, k, 999983, rfl, hS, hn, hk, by decide, fun p _ _ => ?_⟩
   walk_at "gz"
   exact ⟨pm.1, pm.2.1, pm.2.2, hm, fin _⟩
noncomputable def OY : Sp := fun vs H Q _ => ∃ (v : V), vs = [v] /\ (v = .non ∨ ∃ i, v = .int i) /\ Q (.bl (isWhole v)) H
theorem Hq (T : Tx K mg) : aL P w K mg base (aM P w) 1 T.jl T.vM ["_law_found"] OY := by
 refine okN T.kC OS (fun vs H Q E h => ?_) (fun aD A outer s H vs Q E hr h => ?_)
 ·obtain ⟨v, rfl, _⟩ := h
  rfl
 ·obtain ⟨v, rfl, hv, q⟩ := h
  refine ⟨_, (ax (aV (k7 (bX sI (by rfl) T.qX sE (aa (pv 0) (aa (rS (v := .ty "int") rfl T.Hd K2 rfl) ah))) (oK (Jx (bX sI (by rfl) T.qX sE (aa (pv 0) (aa (rS (v := .ty "bool") rfl T.Hc K3 rfl) ah)))))))), ?_⟩
  rcases hv with rfl | ⟨i, rfl⟩
  ·walk_at "gz"
   exact q
  ·walk_at "gz"
   exact q
noncomputable def OZ : Sp := fun vs H Q _ => ∃ (a b : En), vs = [ev a, ev b] /\ Q (.bl (bg a b)) H
theorem Hr (T : Tx K mg) : aL P w K mg base (aM P w) 1 T.iM T.uF ["lo", "hi"] OZ := by
 refine okN T.kx OB (fun vs H Q E h => ?_) (fun aD A outer s H vs Q E hr h => ?_)
 ·obtain ⟨a, b, rfl, _⟩ := h
  rfl
 ·obtain ⟨a, b, rfl, q⟩ := h
  refine ⟨_, (ax (aV (k7 (Dr (h9 (pv 0))) (k7 (Dr (h9 (pv 1))) (oK (ly ig (pv 0) (pv 1) (bp _))))))), ?_⟩
  rcases a with _ | x
  ·walk_at "gz"
   exact q
  rcases b with _ | y
  ·walk_at "gz"
   exact q
  walk_at "gz"
  exact q
noncomputable def O0 : Sp := fun vs H Q _ => ∃ (v u : V) (a b c d : En), vs = [v, u] /\ aQ H v a b /\ aQ H u c d /\ ∀ x H', aj H H' -> EJ H' x (gF a c) (gG b d) -> Q x H'
theorem O2 (T : Tx K mg) : aL P w K mg base (aM P w) 2 T.iN T.uG ["one", "other"] O0 := by
 refine okN T.nB zC (fun vs H Q E h => ?_) (fun aD A outer s H vs Q E hr h => ?_)
 ·obtain ⟨v, u, a, b, c, d, rfl, _⟩ := h
  rfl
 ·obtain ⟨v, u, a, b, c, d, rfl, ⟨p, rfl, hp⟩, ⟨r, rfl, bV⟩, q⟩ := h
  refine ⟨_, (ao (aF (i := 2) zC.nd rfl (Or.inl rfl) (Ls rfl rfl T.vY (j4 (eM.mk (fr := []) (ys := []) rfl (by decide +kernel) rfl (by decide +kernel) rfl rfl .nil .nil (by decide) rfl) rfl (Dw (bH (aa (au az (pv 0) ae (fun _ _ => rfl)) (aa (au az (pv 1) ae (fun _ _ => rfl)) ah)))) (fun C s2 H2 ex pn => ⟨(tF (c7 (h9 (pv 0)))), (pv 0)⟩)) eX))
  (ao (aF (i := 3) zC.nd rfl (Or.inl rfl) (Lu rfl rfl T.ju (j4 (eM.mk (fr := []) (ys := []) rfl (by decide +kernel) rfl (by decide +kernel) rfl rfl .nil .nil (by decide) rfl) rfl (Dw (bH (aa (au az (pv 0) ae (fun _ _ => rfl)) (aa (au az (pv 1) ae (fun _ _ => rfl)) ah)))) (fun C s2 H2 ex pn => ⟨(tF (c7 (h9 (pv 0)))), (pv 0)⟩)) eX))
  (ao (bc (ed (aG (Hr T) (hr.mono (by decide)) rfl T.zH T.kx.kp T.qF .nil aC (aa (pv 2) (aa (pv 3) ah)))) (ax (aV eX)) bf)
  (ax (aV (bH (aa (pv 2) (aa (pv 3) ah)))))))), ?_⟩
  walk_at "gz"
  refine aI (ar.of hp) rfl (aI (ar.of bV) rfl ?_)
  walk_at "gz"
  refine ⟨bQ, fun t ht => ⟨⟨_, ar.of aw⟩, EK aw (fun x H Q h => ?_) (fun x H Q h => ?_) fun l hl => ?_⟩⟩
  ·walk_at "gz"
   exact h
  ·walk_at "gz"
   exact h
  refine ⟨l, rfl, nums a c, ai.of aw, ?_⟩
  rw [LI]
  have s2 := (aB (o := .tup [ev a, ev c]) ht).trans (aB (o := .lst ((nums a c).map V.int)) hl)
  generalize upd (upd H t (.tup [ev a, ev c])) l (.lst ((nums a c).map V.int)) = H2 at s2 ⊢
  refine aI (ar.of (s2 _ _ hp)) rfl (aI (ar.of (s2 _ _ bV)) rfl ?_)
  walk_at "gz"
  refine ⟨bQ, fun t' O3 => ⟨⟨_, ar.of aw⟩, EK aw (fun x H Q h => ?_) (fun x H Q h => ?_) fun l' iJ => ?_⟩⟩
  ·walk_at "gz"
   exact h
  ·walk_at "gz"
   exact h
  refine ⟨l', rfl, nums b d, ai.of aw, ?_⟩
  rw [LJ]
  have s3 := s2.trans ((aB (o := .tup [ev b, ev d]) O3).trans (aB (o := .lst ((nums b d).map V.int)) iJ))
  generalize upd (upd H2 t' (.tup [ev b, ev d])) l' (.lst ((nums b d).map V.int)) = H3 at s3 ⊢
  refine ⟨_, _, rfl, ?_⟩
  cases hc : bg (gF a c) (gG b d) with
  | true =>
   walk_at "gz"
   exact q _ _ s3 ⟨fun _ => rfl, fun z => nomatch hc.symm.trans z⟩
  | false =>
   walk_at "gz"
   exact ⟨bQ, fun p' bZ => q _ _ (s3.trans (aB bZ)) ⟨fun z => (nomatch hc.symm.trans z), fun _ => aQ.new⟩⟩
noncomputable def dW (e t u d m : Int) : Prop := (1 <= e /\ e <= 7) /\ (1 <= t /\ t <= 12) /\ 0 <= u /\ 0 <= d /\ 0 <= m /\ m <= e
noncomputable def v8 (e t u d m : Int) (p : Addr) : List (Str × V) := [("eyes", .int e), ("turns", .int t), ("up", .int u), ("down", .int d), ("most", .int m), ("told", .ref p)]
noncomputable def O4 (B C : Addr) : Sp := fun vs H Q E => ∃ (x dx : Addr) (e t u d m : Int), vs = [.ref x, .int e, .int t, .int u, .int d, .int m] /\ H x = some (.ins B dx []) /\ (¬ dW e t u d m -> E (.ref C) none H) /\
 (dW e t u d m -> ∀ p H', H p = none -> SameBut x H H' -> H' x = some (.ins B dx (v8 e t u d m p)) -> H' p = some (.dT []) -> Q .non H')
theorem O5 (T : Tx K mg) : aL P w K mg base (aM P w) 1 T.i4 T.vg ["self", "eyes", "turns", "up", "down", "most"] (O4 T.aE T.dA) := by
 refine jU T.qI OJ (fun vs H Q E h => ?_) (fun aD A outer s H vs Q E hr h => ?_)
 ·obtain ⟨x, dx, e, t, u, d, m, rfl, _⟩ := h
  rfl
 ·obtain ⟨x, dx, e, t, u, d, m, rfl, hx, q0, q⟩ := h
  refine ⟨_, (ao (bc (PW.pt (ee (eY (xN ie ie ae (pv 1) (Fv T.Hn rfl))) (gf (eY (xN ie ie ae (pv 2) (Fv T.Ho rfl)))))) (ax (jS jT rfl T.vZ T.v5 rfl (aa fF ah))) bf)
  (ao (bc (PW.pt (ee (bN lx (pv 3) ae (bp _)) (gf (bN lx (pv 4) ae (bp _))))) (ax (jS jT rfl T.vZ T.v5 rfl (aa fF ah))) bf)
  (ao (bc (eY (xN ie ie ae (pv 5) (pv 1))) (ax (jS jT rfl T.vZ T.v5 rfl (aa fF ah))) bf)
  (ao (lC (pv 0) (pv 1) rfl)
  (ao (lC (pv 0) (pv 2) rfl)
  (ao (lC (pv 0) (pv 3) rfl)
  (ao (lC (pv 0) (pv 4) rfl)
  (ao (lC (pv 0) (pv 5) rfl)
  (ax (lC (pv 0) yQ rfl)))))))))), ?_⟩
  walk_at "gz"
  have no : ∀ D σ, ¬ dW e t u d m -> ∀ x, Ec T.dA E (lD (tC (.str x)) jI) D σ H := fun D σ z x => ⟨by show 1 <= sizeLine; decide, q0 z⟩
  refine bC (fun h1 => bC (fun h2 => no _ _ (fun z => by unfold dW at z; omega) _) fun h2 => ?_) fun h1 => no _ _ (fun z => by unfold dW at z; omega) _
  refine bC (fun h3 => bC (fun h4 => no _ _ (fun z => by unfold dW at z; omega) _) fun h4 => ?_) fun h3 => no _ _ (fun z => by unfold dW at z; omega) _
  refine bC (fun h5 => no _ _ (fun z => by unfold dW at z; omega) _) fun h5 => bC (fun h6 => no _ _ (fun z => by unfold dW at z; omega) _) fun h6 => ?_
  refine bC (fun h7 => bC (fun h8 => no _ _ (fun z => by unfold dW at z; omega) _) fun h8 => ?_) fun h7 => no _ _ (fun z => by unfold dW at z; omega) _
  replace q := q (by unfold dW; omega)
  refine ⟨_, _, _, hx, T.bw, T.jv, (by show 0 < 1000; decide), _, _, _, aw, T.bw, T.jw, (by show 1 < 1000; decide), _, _, _, aw, T.bw, T.kE, (by show 2 < 1000; decide), _, _, _, aw, T.bw, T.kF, (by show 3 < 1000; decide), _, _, _, aw, T.bw, T.nZ, (by show 4 < 1000; decide), ?_⟩
  rw [rP, rP, rP, rP]
  intro p hp
  have Hs : p ≠ x := fun z => by rw [z, aw] at hp; cases hp
  refine ⟨_, _, _, (aB hp) _ _ aw, T.bw, T.fA, (by show 5 < 1000; decide), q p _ (by rw [ay Hs] at hp; exact hp) (fun b o hb e => ?_) aw ?_⟩
  ·rw [ay hb]
   exact (aB hp) _ _ (by rw [ay hb]; exact e)
  ·rw [ay Hs, aw]
structure gX (B : Addr) (H : Hp) (x : Addr) (e t u d m : Int) (p : Addr) (kvs : List (List Key × V)) : Prop where
 ob : ∃ dx, H x = some (.ins B dx (v8 e t u d m p))
 tb : H p = some (.dT kvs)
noncomputable def O6 (B : Addr) : Sp := fun vs H Q _ => ∃ (x p : Addr) (e t u d m i : Int) (kvs : List (List Key × V)), vs = [.ref x, .int i] /\ gX B H x e t u d m p kvs /\ Q (.bl (decide (0 <= i /\ i < e))) H
noncomputable def O7 (B : Addr) : Sp := fun vs H Q _ => ∃ (x p : Addr) (e t u d m i : Int) (kvs : List (List Key × V)), vs = [.ref x, .int i] /\ gX B H x e t u d m p kvs /\ Q (.bl (decide (0 <= i /\ i < t))) H
theorem O8 (T : Tx K mg) : aL P w K mg base (aM P w) 1 T.i5 T.vk ["self", "eye"] (O6 T.aE) := by
 refine okN T.qJ OL (fun vs H Q E h => ?_) (fun aD A outer s H vs Q E hr h => ?_)
 ·obtain ⟨x, p, e, t, u, d, m, i, kvs, rfl, _⟩ := h
  rfl
 ·obtain ⟨x, p, e, t, u, d, m, i, kvs, rfl, ⟨⟨dx, hx⟩, hp⟩, q⟩ := h
  refine ⟨_, (ax (aV (Dz ie lx ae (pv 1) (fg (pv 0) rfl)))), ?_⟩
  walk_at "gz"
  refine bC (fun h1 => ?_) fun h1 => ?_
  ·refine ⟨_, _, _, hx, T.bw, T.jv, _, rfl, ?_⟩
   walk_at "gz"
   rw [show decide (0 <= i /\ i < e) = decide (i < e) by simp [h1]] at q
   exact q
  ·rw [show decide (0 <= i /\ i < e) = false by simp [h1]] at q
   exact q
theorem wa (T : Tx K mg) : aL P w K mg base (aM P w) 1 T.i6 T.vm ["self", "turn"] (O7 T.aE) := by
 refine okN T.qK OM (fun vs H Q E h => ?_) (fun aD A outer s H vs Q E hr h => ?_)
 ·obtain ⟨x, p, e, t, u, d, m, i, kvs, rfl, _⟩ := h
  rfl
 ·obtain ⟨x, p, e, t, u, d, m, i, kvs, rfl, ⟨⟨dx, hx⟩, hp⟩, q⟩ := h
  refine ⟨_, (ax (aV (Dz ie lx ae (pv 1) (fg (pv 0) rfl)))), ?_⟩
  walk_at "gz"
  refine bC (fun h1 => ?_) fun h1 => ?_
  ·refine ⟨_, _, _, hx, T.bw, T.jw, _, rfl, ?_⟩
   walk_at "gz"
   rw [show decide (0 <= i /\ i < t) = decide (i < t) by simp [h1]] at q
   exact q
  ·rw [show decide (0 <= i /\ i < t) = false by simp [h1]] at q
   exact q
noncomputable def O9 (B C : Addr) : Sp := fun vs H Q E => ∃ (x p : Addr) (e t u d m i j : Int) (kvs : List (List Key × V)), vs = [.ref x, .int i, .int j] /\ gX B H x e t u d m p kvs /\ (¬ ((0 <= i /\ i < e) /\ 0 <= j /\ j < t) -> E (.ref C) none H) /\ ((0 <= i /\ i < e) /\ 0 <= j /\ j < t -> Q .non H)
theorem Pb (T : Tx K mg) : aL P w K mg base (aM P w) 2 T.ja T.vw ["self", "eye", "turn"] (O9 T.aE T.cF) := by
 refine jU T.qQ OQ (fun vs H Q E h => ?_) (fun aD A outer s H vs Q E hr h => ?_)
 ·obtain ⟨x, p, e, t, u, d, m, i, j, kvs, rfl, _⟩ := h
  rfl
 ·obtain ⟨x, p, e, t, u, d, m, i, j, kvs, rfl, hb, q0, q⟩ := h
  refine ⟨_, (ax (bc (PW.pt (ee (eY (ed (fK (pv 0) T.bw T.Hi (O8 T) (hr.mono (by decide)) T.vl .nil aC (aa (pv 1) ah)))) (gf (eY (ed (fK (pv 0) T.bw T.q9 (wa T) (hr.mono (by decide)) T.kA .nil aC (aa (pv 2) ah))))))) (ax (jS jT rfl T.v3 T.v7 rfl (aa fF ah))) bf)), ?_⟩
  obtain ⟨⟨dx, hx⟩, hp⟩ := id hb
  walk_at "gz"
  refine ⟨_, _, hx, rfl, x, p, e, t, u, d, m, i, kvs, rfl, hb, ?_⟩
  by_cases h1 : 0 <= i /\ i < e
  ·rw [decide_eq_true h1]
   walk_at "gz"
   refine ⟨_, _, hx, rfl, x, p, e, t, u, d, m, j, kvs, rfl, hb, ?_⟩
   by_cases h2 : 0 <= j /\ j < t
   ·rw [decide_eq_true h2]
    walk_at "gz"
    exact q ⟨h1, h2⟩
   ·rw [decide_eq_false h2]
    walk_at "gz"
    exact ⟨by decide, q0 fun z => h2 z.2⟩
  ·rw [decide_eq_false h1]
   walk_at "gz"
   exact ⟨by decide, q0 fun z => h1 z.1⟩
noncomputable def Pc (B C : Addr) : Sp := fun vs H Q E => ∃ (x p : Addr) (e t u d m i j : Int) (kvs : List (List Key × V)), vs = [.ref x, .int i, .int j] /\ gX B H x e t u d m p kvs /\ (aY kvs (aH i j) = none -> ∀ H', aj H H' -> E (.ref C) none H') /\ (∀ v, aY kvs (aH i j) = some v -> ∀ H', aj H H' -> Q .non H')
theorem Pd (T : Tx K mg) : aL P w K mg base (aM P w) 1 T.jb T.vy ["self", "eye", "turn"] (Pc T.aE T.cF) := by
 refine jU T.qR OR (fun vs H Q E h => ?_) (fun aD A outer s H vs Q E hr h => ?_)
 ·obtain ⟨x, p, e, t, u, d, m, i, j, kvs, rfl, _⟩ := h
  rfl
 ·obtain ⟨x, p, e, t, u, d, m, i, j, kvs, rfl, hb, q0, q⟩ := h
  refine ⟨_, (ax (bc (c7 (KS (cL hr) (bH (aa (pv 1) (aa (pv 2) ah))) (fg (pv 0) rfl))) (ax (jS jT rfl T.v3 T.v7 rfl (aa fF ah))) bf)), ?_⟩
  obtain ⟨⟨dx, hx⟩, hp⟩ := id hb
  walk_at "gz"
  refine ⟨bQ, fun k hk => ⟨_, _, _, (aB hk) _ _ hx, T.bw, T.fA, _, rfl, p, rfl, aY kvs (aH i j), bA.t (k := aH i j) ((aB hk) _ _ hp) aw, ?_⟩⟩
  cases hv : aY kvs (aH i j) with
  | none => exact ⟨by decide, q0 hv _ (aB hk)⟩
  | some v => exact q v hv _ (aB hk)
noncomputable def zS (B C : Addr) : Sp := fun vs H Q E => ∃ (x p : Addr) (e t u d m i j : Int) (lo hi : En) (kvs : List (List Key × V)), vs = [.ref x, .int i, .int j, ev lo, ev hi] /\ gX B H x e t u d m p kvs /\ kvs.length < 1000 /\ (¬ (((0 <= i /\ i < e) /\ 0 <= j /\ j < t) /\ bg lo hi = false) -> E (.ref C) none H) /\
 (((0 <= i /\ i < e) /\ 0 <= j /\ j < t) /\ bg lo hi = false -> ∀ v H', SameBut p H H' -> H' p = some (.dT (putK kvs (aH i j) v)) -> aQ H' v lo hi -> Q .non H')
theorem Ht (T : Tx K mg) : aL P w K mg base (aM P w) 3 T.i7 T.vn ["self", "eye", "turn", "lo", "hi"] (zS T.aE T.cF) := by
 refine jU T.qL ON (fun vs H Q E h => ?_) (fun aD A outer s H vs Q E hr h => ?_)
 ·obtain ⟨x, p, e, t, u, d, m, i, j, lo, hi, kvs, rfl, _⟩ := h
  rfl
 ·obtain ⟨x, p, e, t, u, d, m, i, j, lo, hi, kvs, rfl, hb, hl, q0, q⟩ := h
  refine ⟨_, (ao (dE (fK (pv 0) T.bw T.Hk (Pb T) (hr.mono (by decide)) T.vx .nil yb (aa (pv 1) (aa (pv 2) ah))))
  (ao (bc (ed (aG (Hr T) (hr.mono (by decide)) rfl T.zH T.kx.kp T.qF .nil aC (aa (pv 3) (aa (pv 4) ah)))) (ax (jS jT rfl T.v3 T.v7 rfl (aa fF ah))) bf)
  (ax (sx (cL hr) (fg (pv 0) rfl) (bH (aa (pv 1) (aa (pv 2) ah))) (bH (aa (pv 3) (aa (pv 4) ah))) rfl)))), ?_⟩
  obtain ⟨⟨dx, hx⟩, hp⟩ := id hb
  walk_at "gz"
  refine ⟨_, _, hx, rfl, x, p, e, t, u, d, m, i, j, kvs, rfl, hb, fun z => q0 fun y => z y.1, fun b9 => ?_⟩
  refine ⟨lo, hi, rfl, ?_⟩
  cases hc : bg lo hi with
  | true =>
   walk_at "gz"
   exact ⟨by decide, q0 fun z => by rw [hc] at z; cases z.2⟩
  | false =>
   walk_at "gz"
   refine ⟨bQ, fun v hv => ⟨_, _, _, (aB hv) _ _ hx, T.bw, T.fA, _, rfl, bQ, fun k hk => ?_⟩⟩
   have s2 := (aB (o := .tup [ev lo, ev hi]) hv).trans (aB (o := .tup [.int i, .int j]) hk)
   refine ⟨p, rfl, _, eI.t (k := aH i j) (s2 _ _ hp) aw (Nat.lt_trans hl (by decide)), q ⟨b9, hc⟩ (.ref v) _ (fun b o fY e => ?_) aw ⟨v, rfl, ?_⟩⟩
   ·rw [ay fY]; exact s2 _ _ e
   ·have vp : v ≠ p := fun z => by rw [z] at hv; rw [hp] at hv; cases hv
    rw [ay vp]; exact (aB hk) _ _ aw
end
section
seal L2.PE L2.PS L2.bo L2.PA
variable {P : Program} {w : World} {K : PySem.W.Frag} {mg : Str -> Option Value} {base : Heap}
structure cR (B : Addr) (H : Hp) (x : Addr) (e t u d m : Int) (p : Addr) (tb : Tb) : Prop where
 ob : ∃ dx, H x = some (.ins B dx (v8 e t u d m p))
 tb : TabAt H p tb
theorem cR.same {B : Addr} {H H' : Hp} {x p : Addr} {e t u d m : Int} {tb : Tb} (h : cR B H x e t u d m p tb) (s : aj H H') : cR B H' x e t u d m p tb := let ⟨⟨dx, a⟩, b⟩ := h; ⟨⟨dx, s _ _ a⟩, b.same s⟩
noncomputable def Pe (B C : Addr) : Sp := fun vs H Q E => ∃ (x p : Addr) (e t u d m i j : Int) (kvs : List (List Key × V)), vs = [.ref x, .int i, .int j] /\ gX B H x e t u d m p kvs /\ (aY kvs (aH i j) = none -> ∀ H', aj H H' -> E (.ref C) none H') /\
 (∀ v, aY kvs (aH i j) = some v -> ∀ H', SameBut p H H' -> H' p = some (.dT (eE kvs (aH i j))) -> Q .non H')
theorem Pf (T : Tx K mg) : aL P w K mg base (aM P w) 2 T.i8 T.vo ["self", "eye", "turn"] (Pe T.aE T.cF) := by
 refine jU T.qN OO (fun vs H Q E h => ?_) (fun aD A outer s H vs Q E hr h => ?_)
 ·obtain ⟨x, p, e, t, u, d, m, i, j, kvs, rfl, _⟩ := h
  rfl
 ·obtain ⟨x, p, e, t, u, d, m, i, j, kvs, rfl, hb, q0, q⟩ := h
  refine ⟨_, (ao (dE (fK (pv 0) T.bw T.Hl (Pd T) (hr.mono (by decide)) T.vz .nil yb (aa (pv 1) (aa (pv 2) ah))))
  (ax (dE (Fu (cL hr) (fg (pv 0) rfl) (bH (aa (pv 1) (aa (pv 2) ah))) ⟨rfl, rfl, rfl, rfl⟩)))), ?_⟩
  obtain ⟨⟨dx, hx⟩, hp⟩ := id hb
  walk_at "gz"
  refine ⟨_, _, hx, rfl, x, p, e, t, u, d, m, i, j, kvs, rfl, hb, q0, fun v hv H1 s1 => ?_⟩
  have kh := s1 _ _ hx
  have wb := s1 _ _ hp
  walk_at "gz"
  refine ⟨_, _, _, kh, T.bw, T.fA, _, rfl, p, rfl, .inr ⟨kvs, .inl wb⟩, bQ, fun k hk => ?_⟩
  refine ⟨kvs, (aB hk) _ _ wb, aH i j, aw, v, hv, q v hv _ (fun b o fY e => ?_) aw⟩
  rw [ay fY]; exact (aB hk) _ _ (s1 _ _ e)
noncomputable def Pg (B : Addr) : Sp := fun vs H Q _ => ∃ (x p : Addr) (e t u d m : Int) (tb : Tb), vs = [.ref x] /\ cR B H x e t u d m p tb /\ (tb.map (·.1)).Nodup /\ tb.length < 64 /\ ∀ l xs H', aj H H' -> H l = none -> H' l = some (.lst xs) -> ak (cP H') xs (gI tb) -> Q (.ref l) H'
theorem Hu (T : Tx K mg) : aL P w K mg base (aM P w) 1 T.i9 T.vu ["self"] (Pg T.aE) := by
 refine okN T.qO OP (fun vs H Q E h => ?_) (fun aD A outer s H vs Q E hr h => ?_)
 ·obtain ⟨x, p, e, t, u, d, m, tb, rfl, _⟩ := h
  rfl
 ·obtain ⟨x, p, e, t, u, d, m, tb, rfl, ⟨⟨dx, hx⟩, kvs, hp, hT⟩, hn, cO, q⟩ := h
  refine ⟨_, (ax (aV (j4 (eM.mk (fr := [0]) (ys := ["self"]) rfl (by decide +kernel) rfl (by decide +kernel) rfl rfl (.cons rfl .nil) (.cons rfl rfl rfl rfl .nil) (by decide) rfl) rfl (fb (bX (Mq rfl) (by rfl) T.qZ sF (aa (fg (pv 0) rfl) ah))) (fun C s2 H2 ex pn => ⟨lT, (bH (aa (au (fj (K := K) rfl) (pv 0) ae (fun _ _ => rfl)) (aa (au (fj (K := K) rfl) (pv 0) ae (fun _ _ => rfl)) (aa (Fw (cL hr) (Mx (K := K) (pv 1) rfl) (pv 0) (fun _ _ => rfl)) ah))))⟩)))), ?_⟩
  walk_at "gz"
  refine ⟨_, _, _, hx, T.bw, T.fA, _, rfl, p, rfl, kvs, hp, dR tb, MA hT, MB, by rw [hT.len]; exact cO, fun l ys hl hk => ?_⟩
  have PS := FA hT hk
  have s1 := aB (o := .lst (bJ (dR tb) .non ys)) hl
  have L1 : upd H l (.lst (bJ (dR tb) .non ys)) l = some (.lst (bJ (dR tb) .non ys)) := aw
  generalize upd H l (.lst (bJ (dR tb) .non ys)) = H1 at s1 L1 ⊢
  refine ⟨⟨_, ai.of L1⟩, j6 yz (Nat.le_trans (by rw [PS.len, uc]; exact Nat.le_of_lt cO : _ <= 64) (by decide)) (l9 (R := fun H x (r : P2 × S2) => aW H x r.1) (R' := fun H y (r : P2 × S2) => cP H y r) (f := fun r => r) (bs := []) (fun _ _ _ _ s r => aW.same r s) (fun _ _ _ _ s r => cP.same r s) (PS.imp fun x r z => aW.same z s1) trivial (fun H' s' => ai.of (s' _ _ L1)) (fun x r _ H' s' bV Q h => ?_) (fun x r bV H' s' h0 Q h => ?_) fun H2 zs s2 hz => ?_)⟩
  ·walk_at "gz"
   exact h
  ·obtain ⟨a, rfl, ha⟩ := id h0
   have S := s1.trans s'
   have Ph := hT.imp fun v a b z => aQ.same z S
   obtain ⟨w, hw, iw⟩ := (Ph.val r.1).2 _ (ml hn (qm bV))
   walk_at "gz"
   refine aI (ar.of ha) rfl (aI (ar.of ha) rfl ⟨_, _, _, S _ _ hx, T.bw, T.fA, _, rfl, p, rfl, w, ?_, ?_⟩)
   ·rw [<- hw]; exact bA.t (k := aH r.1.1 r.1.2) (S _ _ hp) ha
   ·exact ⟨by decide, fun z hz => h _ _ (aB hz) ⟨z, w, rfl, aw, aQ.same iw (aB hz)⟩⟩
  rw [List.nil_append, List.map_id'] at hz
  exact fun l2 bP => q l2 zs _ (s1.trans (s2.trans (aB bP))) ((s1.trans s2).free bP) aw (hz.imp fun x r z => cP.same z (aB bP))
noncomputable def Pj (K : PySem.W.Frag) : Sp := fun vs H Q _ => ∃ (a : Addr) (xs : List V) (ss : List S2), vs = [.ref a] /\ ai K H a xs /\ dO H xs ss /\ xs.length <= 1000 /\ ∀ v H', aj H H' -> iz H' v (kd (none, none) ss) -> Q v H'
noncomputable def Pk (K : PySem.W.Frag) (H : Hp) (a : Addr) (xs : List V) (ss : List S2) (i : Nat) (σ : St) (H1 : Hp) : Prop := ∃ (v : V) (e : Option V), σ = [some (.ref a), some v, e] /\ aj H H1 /\ aQ H1 v (bF (none, none) (ss.take i)).1 (bF (none, none) (ss.take i)).2 /\ bg (bF (none, none) (ss.take i)).1 (bF (none, none) (ss.take i)).2 = false
theorem Pl (T : Tx K mg) : aL P w K mg base (aM P w) 3 T.iO T.uI ["some"] (Pj K) := by
 refine okN T.nC uB (fun vs H Q E h => ?_) (fun aD A outer s H vs Q E hr h => ?_)
 ·obtain ⟨a, xs, ss, rfl, _⟩ := h
  rfl
 ·obtain ⟨a, xs, ss, rfl, hS, hP, hn, q⟩ := h
  refine ⟨_, (ao (aF (i := 1) uB.nd rfl (Or.inl rfl) (bH (aa eX (aa eX ah))))
  (ao (c9 PassesOwn.never rfl (fb (pv 0)) (bz (i := 2) uB.nd rfl (Or.inl rfl)) (ao (aF (i := 1) uB.nd rfl (Or.inl rfl) (aG (O2 T) (hr.mono (by decide)) rfl T.GR T.nB.kp T.uH .nil aC (aa (pv 1) (aa (pv 2) ah))))
    (ax (bc (c7 (jz (pv 1))) (ax (aV eX)) bf))))
  (ax (aV (pv 1))))), ?_⟩
  have hA := mq.mp hP
  have hl := hA.len
  walk_at "gz"
  refine ⟨bQ, fun p hp => ?_⟩
  have s0 := aB (o := .tup [.non, .non]) hp
  refine ⟨⟨_, s0.seq hS⟩, lO (xs := xs) (Pk K H a xs ss) ⟨_, _, rfl, s0, ⟨p, rfl, aw⟩, rfl⟩ ?_ ?_ ?_⟩
  ·rintro i σ H1 _ ⟨_, _, _, s1, _⟩
   exact s1.seq hS
  ·rintro i x σ H1 hx ⟨v, e, rfl, s1, hv, hc⟩
   obtain ⟨w, hw, r⟩ := hA.get hx
   have e1 := MF (e := (none, none)) hw
   walk_at "gz"
   refine ⟨v, x, _, _, w.1, w.2, rfl, hv, r.same s1, fun y H2 s2 hm => ?_⟩
   have uy : EJ H2 y (bF (none, none) (ss.take (i + 1))).1 (bF (none, none) (ss.take (i + 1))).2 := by rw [e1]; exact hm
   cases hk : bg (bF (none, none) (ss.take (i + 1))).1 (bF (none, none) (ss.take (i + 1))).2 with
   | true =>
    have ey := uy.1 hk
    subst ey
    walk_at "gz"
    refine q _ _ (s1.trans s2) ?_
    unfold kd
    rw [if_pos (ME hk)]
    rfl
   | false =>
    have hy := uy.2 hk
    obtain ⟨t, rfl, ht⟩ := id hy
    walk_at "gz"
    exact ⟨_, _, rfl, s1.trans s2, hy, hk⟩
  ·rintro σ H1 ⟨v, e, rfl, s1, hv, hc⟩
   walk_at "gz"
   rw [hl, List.take_length] at hv hc
   refine q _ _ s1 ?_
   unfold kd
   rw [if_neg (by rw [hc]; simp)]
   exact hv
noncomputable def Pm (B : Addr) : Sp := fun vs H Q _ => ∃ (x p : Addr) (e t u d m i : Int) (k : Str) (kvs : List (List Key × V)), vs = [.ref x, .str k, .int i] /\ gX B H x e t u d m p kvs /\ Q (.bl (hasB t k i)) H
theorem Pn (T : Tx K mg) : aL P w K mg base (aM P w) 2 T.iU T.uR ["board", "kind", "turn"] (Pm T.aE) := by
 refine okN T.nG OF (fun vs H Q E h => ?_) (fun aD A outer s H vs Q E hr h => ?_)
 ·obtain ⟨x, p, e, t, u, d, m, i, k, kvs, rfl, _⟩ := h
  rfl
 ·obtain ⟨x, p, e, t, u, d, m, i, k, kvs, rfl, hb, q⟩ := h
  refine ⟨_, (ao (bc (bN cT (pv 1) fF (bp _)) (ax (aV (k7 (fK (pv 0) T.bw T.q9 (wa T) (hr.mono (by decide)) T.kA .nil aC (aa (pv 2) ah)) (oK (fK (pv 0) T.bw T.q9 (wa T) (hr.mono (by decide)) T.kA .nil aC (aa (aA a8 (pv 2) ae) ah)))))) bf)
  (ax (aV (k7 (ly cT (pv 1) fF (bp _)) (oK (fK (pv 0) T.bw T.q9 (wa T) (hr.mono (by decide)) T.kA .nil aC (aa (pv 2) ah))))))), ?_⟩
  obtain ⟨⟨dx, hx⟩, hp⟩ := id hb
  unfold hasB at q
  walk_at "gz"
  try refine ⟨rfl, ?_⟩
  by_cases hk : k = "step"
  ·subst hk
   rw [if_pos rfl] at q ⊢
   refine ⟨_, _, hx, rfl, x, p, e, t, u, d, m, i, kvs, rfl, hb, ?_⟩
   by_cases h1 : 0 <= i /\ i < t
   ·rw [decide_eq_true h1] at q ⊢
    walk_at "gz"
    refine ⟨_, _, hx, rfl, x, p, e, t, u, d, m, _, kvs, rfl, hb, ?_⟩
    rw [Bool.true_and] at q
    exact q
   ·rw [decide_eq_false h1] at q ⊢
    walk_at "gz"
    exact q
  ·rw [if_neg hk] at q
   rw [if_neg fun z => hk (V.str.inj z)]
   try refine ⟨rfl, ?_⟩
   by_cases eQ : k = "at"
   ·subst eQ
    rw [decide_eq_true rfl, Bool.true_and] at q
    rw [if_pos rfl]
    refine ⟨_, _, hx, rfl, x, p, e, t, u, d, m, i, kvs, rfl, hb, ?_⟩
    exact q
   ·rw [decide_eq_false eQ, Bool.false_and] at q
    rw [if_neg fun z => eQ (V.str.inj z)]
    exact q
noncomputable def Po (K : PySem.W.Frag) (B C : Addr) : Sp := fun vs H Q E => ∃ (x p b : Addr) (e t u d m : Int) (kvs : List (List Key × V)) (xs : List V) (ps : List Pa), vs = [.ref x, .ref b] /\ gX B H x e t u d m p kvs /\ ai K H b xs /\ mr H xs ps /\ (¬ qo t ps -> E (.ref C) none H) /\ (qo t ps -> Q .non H)
noncomputable def Pp (H : Hp) (x b : Addr) (t : Int) (ps : List Pa) (i : Nat) (σ : St) (H1 : Hp) : Prop := ∃ (e : Option V), σ = [some (.ref x), some (.ref b), e] /\ H1 = H /\ qo t (ps.take i)
theorem Pq (T : Tx K mg) : aL P w K mg base (aM P w) 3 T.iV T.uT ["board", "claim"] (Po K T.aE T.dB) := by
 refine jU T.nH GN (fun vs H Q E h => ?_) (fun aD A outer s H vs Q E hr h => ?_)
 ·obtain ⟨x, p, b, e, t, u, d, m, kvs, xs, ps, rfl, _⟩ := h
  rfl
 ·obtain ⟨x, p, b, e, t, u, d, m, kvs, xs, ps, rfl, hb, hX, hP, q0, q⟩ := h
  refine ⟨_, (ax (c9 PassesOwn.leaving rfl (fb (pv 1)) (bz (i := 2) GN.nd rfl (Or.inl rfl)) (ax (bc (eY (ed (aG (Pn T) (hr.mono (by decide)) rfl T.GW T.nG.kp T.uS .nil aC (aa (pv 0) (aa (au az (pv 2) ae (fun _ _ => rfl)) (aa (au az (pv 2) ae (fun _ _ => rfl)) ah)))))) (ax (jS jT rfl T.Hg T.Hm rfl (aa fF ah))) bf)))), ?_⟩
  have hl := hP.len
  walk_at "gz"
  refine ⟨⟨_, hX⟩, lO (xs := xs) (Pp H x b t ps) ⟨_, rfl, rfl, fun _ h => by simp at h⟩ ?_ ?_ ?_⟩
  ·rintro i σ H1 _ ⟨_, _, rfl, _⟩
   exact hX
  ·rintro i y σ H1 hy ⟨e1, rfl, rfl, hk⟩
   obtain ⟨pa, hpa, ta, qa, rfl, h1, h2⟩ := hP.get hy
   walk_at "gz"
   refine aI (ar.of h1) rfl (aI (ar.of h1) rfl ?_)
   refine ⟨x, p, e, t, u, d, m, pa.2.1, pa.1, kvs, rfl, hb, ?_⟩
   cases hc : hasB t pa.1 pa.2.1 with
   | true =>
    walk_at "gz"
    refine ⟨_, rfl, rfl, fun z hz => ?_⟩
    rw [List.take_succ, hpa] at hz
    rcases List.mem_append.mp hz with h | h
    ·exact hk z h
    ·have : z = pa := by simpa using h
     rw [this]; exact hc
   | false =>
    walk_at "gz"
    refine ⟨by decide, q0 fun z => ?_⟩
    rw [z pa (List.mem_of_getElem? hpa)] at hc
    cases hc
  ·rintro σ H1 ⟨e1, rfl, rfl, hk⟩
   rw [hl, List.take_length] at hk
   walk_at "gz"
   exact q hk
noncomputable def Pr (K : PySem.W.Frag) : Sp := fun vs H Q _ => ∃ (b : Addr) (xs : List V) (ps : List Pa) (k : Str) (t : Int), vs = [.ref b, .str k, .int t] /\ ai K H b xs /\ mr H xs ps /\ ps.length <= 1000 /\ ∀ l ys H', aj H H' -> H l = none -> H' l = some (.lst ys) -> dO H' ys (sel ps k t) -> Q (.ref l) H'
theorem Pt (T : Tx K mg) : aL P w K mg base (aM P w) 1 T.iW T.uV ["claim", "kind", "turn"] (Pr K) := by
 refine okN T.nI OG (fun vs H Q E h => ?_) (fun aD A outer s H vs Q E hr h => ?_)
 ·obtain ⟨b, xs, ps, k, t, rfl, _⟩ := h
  rfl
 ·obtain ⟨b, xs, ps, k, t, rfl, hX, hP, hn, q⟩ := h
  refine ⟨_, (ax (aV (j4 (eM.mk (fr := [1, 2]) (ys := ["kind", "turn"]) rfl (by decide +kernel) rfl (by decide +kernel) rfl rfl (.cons rfl (.cons rfl .nil)) (.cons rfl rfl rfl rfl (.cons rfl rfl rfl rfl .nil)) (by decide) rfl) rfl (fb (pv 0)) (fun C s2 H2 ex pn => ⟨(tF (PW.pt (oH (bN cT (au (fj (K := K) rfl) (pv 0) ae (fun _ _ => rfl)) (pv 1) (bp _)) (rV (bN cT (au (fj (K := K) rfl) (pv 0) ae (fun _ _ => rfl)) (pv 2) (bp _)))))), (au (fj (K := K) rfl) (pv 0) ae (fun _ _ => rfl))⟩)))), ?_⟩
  have hl := hP.len
  walk_at "gz"
  refine ⟨⟨_, hX⟩, j6 yz (Nat.le_trans (by omega : xs.length <= 1000) (by decide)) (yV (R := fun x p => iE H x p) (R' := fun y (s : S2) => aQ H y s.1 s.2) (p := yT k t) (f := fun p => p.2.2) hX hP (fun x p r Q h => ?_) (fun x p _ r Q h => ?_) fun zs hz => ?_)⟩
  ·obtain ⟨tt, u, rfl, ht, hu⟩ := r
   unfold yT at h
   walk_at "gz"
   refine aI (ar.of ht) rfl ?_
   walk_at "gz"
   try refine ⟨rfl, ?_⟩
   by_cases hk : p.1 = k
   ·rw [decide_eq_true hk, Bool.true_and] at h
    rw [if_pos (by rw [hk])]
    refine aI (ar.of ht) rfl ?_
    walk_at "gz"
    exact h
   ·rw [decide_eq_false hk, Bool.false_and] at h
    rw [if_neg fun z => hk (V.str.inj z)]
    exact h
  ·obtain ⟨tt, u, rfl, ht, hu⟩ := r
   walk_at "gz"
   exact aI (ar.of ht) rfl (h _ ⟨u, rfl, hu⟩)
  ·rw [List.nil_append]
   intro l bP
   exact q l zs _ (aB bP) bP aw (mq.mpr (hz.imp fun _ _ r => r.same (aB bP)))
noncomputable def wc (u d : Int) (ps : List Pa) (n : Nat) : List W2 := (List.range n).map fun (k : Nat) => kd (none, none) ((some (-d), some u) :: sel ps "step" (k : Int))
noncomputable def Pu (K : PySem.W.Frag) (B C : Addr) : Sp := fun vs H Q E => ∃ (x p b : Addr) (e t u d m : Int) (kvs : List (List Key × V)) (xs : List V) (ps : List Pa), vs = [.ref x, .ref b] /\ gX B H x e t u d m p kvs /\ 1 <= t /\ t <= 12 /\ ai K H b xs /\ mr H xs ps /\ ps.length <= 900 /\ (¬ qo t ps -> E (.ref C) none H) /\ (qo t ps -> ∀ l ys H', aj H H' -> H l = none -> H' l = some (.lst ys) -> ak (iz H') ys (wc u d ps (t - 1).toNat) -> Q (.ref l) H')
theorem Pw (T : Tx K mg) : aL P w K mg base (aM P w) 4 T.iX T.uX ["board", "claim"] (Pu K T.aE T.dB) := by
 refine jU T.nJ GO (fun vs H Q E h => ?_) (fun aD A outer s H vs Q E hr h => ?_)
 ·obtain ⟨x, p, b, e, t, u, d, m, kvs, xs, ps, rfl, _⟩ := h
  rfl
 ·obtain ⟨x, p, b, e, t, u, d, m, kvs, xs, ps, rfl, hb, t1, t2, hX, hP, hn, q0, q⟩ := h
  refine ⟨_, (ao (dE (aG (Pq T) (hr.mono (by decide)) rfl T.GX T.nH.kp T.uU .nil yb (aa (pv 0) (aa (pv 1) ah))))
  (ao (aF (i := 2) GO.nd rfl (Or.inr rfl) (ij (aa (bH (aa (rY r9 (fg (pv 0) rfl)) (aa (fg (pv 0) rfl) ah))) ah)))
  (ax (aV (j4 (eM.mk (fr := [2, 1]) (ys := ["own", "claim"]) rfl (by decide +kernel) rfl (by decide +kernel) rfl rfl (.cons rfl (.cons rfl .nil)) (.cons rfl rfl rfl rfl (.cons rfl rfl rfl rfl .nil)) (by decide) rfl) rfl (jD rfl T.gW (aa (aA ff (fg (pv 0) rfl) ae) ah)) (fun C s2 H2 ex pn => ⟨lT, (aG (Pl T) (hr.mono (by decide)) rfl T.GS T.nC.kp T.uJ .nil aC (aa (aA Kq (pv 1) (aG (Pt T) (hr.mono (by decide)) rfl T.GY T.nI.kp T.uW .nil aC (aa (pv 2) (aa fF (aa (pv 0) ah))))) ah))⟩)))))), ?_⟩
  obtain ⟨⟨dx, hx⟩, hp⟩ := id hb
  walk_at "gz"
  refine ⟨x, p, b, e, t, u, d, m, kvs, xs, ps, rfl, hb, hX, hP, q0, fun hk => ?_⟩
  walk_at "gz"
  refine ⟨_, _, _, hx, T.bw, T.kF, _, rfl, _, rfl, _, _, _, hx, T.bw, T.kE, _, rfl, bQ, fun o ho => ⟨by decide, fun l hl => ?_⟩⟩
  have s1 := (aB (o := .tup [.int (-d), .int u]) ho).trans (aB (o := .lst [.ref o]) hl)
  have O1 : aQ (upd (upd H o (.tup [.int (-d), .int u])) l (.lst [.ref o])) (.ref o) (some (-d)) (some u) := ⟨o, rfl, (aB hl) _ _ aw⟩
  have L1 : (upd (upd H o (.tup [.int (-d), .int u])) l (.lst [.ref o])) l = some (.lst [.ref o]) := aw
  generalize upd (upd H o (.tup [.int (-d), .int u])) l (.lst [.ref o]) = H1 at s1 O1 L1 ⊢
  refine ⟨_, _, _, s1 _ _ hx, T.bw, T.jw, _, rfl, _, rfl, by omega, by omega, ?_⟩
  refine j6 yA (by rw [List.length_map, List.length_range]; exact Nat.le_trans (by omega : _ <= 12) (by decide)) (l9 (R := fun _ x (k : Nat) => x = V.int ((0 : Int) + k)) (R' := iz) (f := fun (k : Nat) => kd (none, none) ((some (-d), some u) :: sel ps "step" (k : Int))) (fun _ _ _ _ _ h => h) (fun _ _ _ _ s' h => h.same s') (ak.g9 _) (bs := []) trivial (fun _ _ => trivial) (fun x k _ H2 s2 r Q h => ?_) (fun x k _ H2 s2 r Q h => ?_) fun H2 zs s2 hz => ?_)
  ·walk_at "gz"
   exact h
  ·subst r
   have S2 := s1.trans s2
   walk_at "gz"
   refine ⟨b, xs, ps, "step", _, rfl, S2.seq hX, hP.same S2, by omega, fun r ys H3 s3 _ R3 hR => ?_⟩
   rw [Int.zero_add] at hR
   walk_at "gz"
   have hlen : ys.length <= 900 := by
    have := (mq.mp hR).len
    have h2 : (sel ps "step" (k : Int)).length <= ps.length := by
     unfold sel
     rw [List.length_map]
     exact List.length_filter_le _ _
    omega
   refine ⟨[.ref o], s3 _ _ (s2 _ _ L1), ys, R3, Nat.le_trans (by show 1 + ys.length <= 1000; omega) (by decide), fun c hc => ?_⟩
   have s4 := aB (o := .lst ([.ref o] ++ ys)) hc
   refine ⟨c, _, (some (-d), some u) :: sel ps "step" (k : Int), rfl, ai.of aw, ⟨(O1.same (s2.trans s3)).same s4, ?_⟩, by rw [List.length_append, List.length_singleton]; omega, fun v H5 s5 hv => h _ _ ((s3.trans s4).trans s5) hv⟩
   exact mq.mpr ((mq.mp hR).imp fun _ _ r => r.same s4)
  ·intro c hc
   refine q hk c zs _ ((s1.trans s2).trans (aB hc)) ((s1.trans s2).free hc) aw ?_
   rw [List.nil_append] at hz
   exact hz.imp fun _ _ r => r.same (aB hc)
end
section
seal L2.PE L2.PS L2.bo L2.PA
variable {P : Program} {w : World} {K : PySem.W.Frag} {mg : Str -> Option Value} {base : Heap}
noncomputable def Px (K : PySem.W.Frag) (B : Addr) : Sp := fun vs H Q _ => ∃ (x p : Addr) (e t u d m i : Int) (tb : Tb), vs = [.ref x, .int i] /\ cR B H x e t u d m p tb /\ (tb.map (·.1)).Nodup /\ tb.length < 64 /\ (∀ r ∈ tb, 0 <= r.1.2) /\ ∀ l ys H', aj H H' -> H l = none -> H' l = some (.lst ys) -> ak (fU H') ys (iF tb i) -> Q (.ref l) H'
theorem Py (T : Tx K mg) : aL P w K mg base (aM P w) 2 T.iY T.uZ ["board", "eye"] (Px K T.aE) := by
 refine okN T.nK OH (fun vs H Q E h => ?_) (fun aD A outer s H vs Q E hr h => ?_)
 ·obtain ⟨x, p, e, t, u, d, m, i, tb, rfl, _⟩ := h
  rfl
 ·obtain ⟨x, p, e, t, u, d, m, i, tb, rfl, hb, cE, cO, h0, q⟩ := h
  refine ⟨_, (ax (aV (L0 (g := gk K 3 (b8 (bG 0) (b8 (bG 1) (b8 (bG 2) gh)))) (l5.mk (own := ["teller", "turn", "word"]) (fr := [1]) (ys := ["eye"]) rfl (by decide +kernel) rfl (by decide +kernel) rfl (.cons rfl .nil) (.cons rfl rfl rfl rfl .nil) rfl) rfl (fb (DH (pv 0) T.bw T.zQ (Hu T) (hr.mono (by decide)) T.qP .nil aC)) (fun C s2 H2 ex pn => jC (n := 3) rfl (c8 (bz (i := 0) (show (["teller", "turn", "word", "eye"] : List Str).Nodup by decide) rfl (.inl (lookup_relabel_local rfl)) (.inr (lookup_relabel_local rfl))) (c8 (bz (i := 1) (show (["teller", "turn", "word", "eye"] : List Str).Nodup by decide) rfl (.inl (lookup_relabel_local rfl)) (.inr (lookup_relabel_local rfl))) (c8 (bz (i := 2) (show (["teller", "turn", "word", "eye"] : List Str).Nodup by decide) rfl (.inl (lookup_relabel_local rfl)) (.inr (lookup_relabel_local rfl))) jB)))) (fun C s2 H2 ex pn => ⟨(tF (bN cT (pv 0) (pv 3) (bp _))), (bH (aa (pv 1) (aa (pv 2) ah)))⟩)))), ?_⟩
  obtain ⟨⟨dx, hx⟩, htb⟩ := id hb
  walk_at "gzn"
  refine ⟨_, _, hx, rfl, x, p, e, t, u, d, m, tb, rfl, hb, cE, cO, fun l xs H1 s1 _ hl hT => ?_⟩
  have tl := hT.len
  rw [uc] at tl
  refine ⟨l, rfl, ⟨_, ai.of hl⟩, MT (row := rowOf H1) (Nat.le_trans (by omega : xs.length <= 64) (by decide)) (yZ (R := fun _ x (r : P2 × S2) => cP H1 x r) (R' := fU) (p := fun r => decide (r.1.1 = i)) (f := fun r => (r.1.2.toNat, r.2)) (fun _ _ _ _ _ h => h) (fun _ _ _ _ s' h => h.same s') hT (bs := []) trivial (fun H' s' => MU hl hT s') (fun x r _ H2 s2 h1 Q h => ?_) (fun x r bV hp H2 s2 h1 Q h => ?_) fun H2 zs s2 hz => ?_)⟩
  ·obtain ⟨ta, w, rfl, ha, hw⟩ := h1
   unfold fm
   dsimp only
   rw [mx ha]
   walk_at "gzn"
   exact h
  ·obtain ⟨ta, w, rfl, ha, wp, rfl, hw⟩ := h1
   unfold fo
   dsimp only
   rw [mx ha]
   walk_at "gzn"
   have dC := h0 r (qm bV)
   refine ⟨bQ, fun t1 n4 => h _ _ (aB n4) ⟨t1, wp, rfl, ?_, (aB n4) _ _ (s2 _ _ hw)⟩⟩
   rw [aw]
   show some (HO.tup [.int r.1.2, .ref wp]) = some (.tup [.int ((r.1.2.toNat : Nat) : Int), .ref wp])
   rw [Int.toNat_of_nonneg dC]
  ·rw [List.nil_append] at hz
   intro l2 bP
   exact q l2 zs _ (s1.trans (s2.trans (aB bP))) ((s1.trans s2).free bP) aw (hz.imp fun _ _ r => r.same (aB bP))
end
section
seal L2.PE L2.PS L2.bo L2.PA
variable {P : Program} {w : World} {K : PySem.W.Frag} {mg : Str -> Option Value} {base : Heap}
theorem Hv {ps : List P2} {i : Nat} (h : i < ps.length) : ps[i]? = some (ba ps i) := by unfold ba; rw [List.getD_eq_getElem?_getD, List.getElem?_eq_getElem h]; rfl
noncomputable def cg (H : Hp) (v : V) : Option P2 -> Prop
 | none => v = .non
 | some p => aW H v p
theorem cg.same {H H' : Hp} {v : V} {o : Option P2} (h : cg H v o) (s : aj H H') : cg H' v o := by
 cases o with
 | none => exact h
 | some p => exact aW.same h s
noncomputable def Pz (K : PySem.W.Frag) : Sp := fun vs H Q _ => ∃ (v u : V) (a b : Option P2), vs = [v, u] /\ cg H v a /\ cg H u b /\ ∀ x, cg H x (fR a b) -> (x = v ∨ x = u) -> Q x H
theorem zT (T : Tx K mg) : aL P w K mg base (aM P w) 1 T.iP T.uK ["one", "other"] (Pz K) := by
 refine okN T.iQ OD (fun vs H Q E h => ?_) (fun aD A outer s H vs Q E hr h => ?_)
 ·obtain ⟨v, u, a, b, rfl, _⟩ := h
  rfl
 ·obtain ⟨v, u, a, b, rfl, ha, hb, q⟩ := h
  refine ⟨_, (ao (bc (PW.pt (ee (c7 (jz (pv 0))) (gf (c7 (jz (pv 1)))))) (ax (aV (Ds (c7 (jz (pv 0))) (pv 1) (pv 0)))) bf)
  (ax (aV (bX (OA rfl (cL hr)) (by rfl) T.ju jP (aa (pv 0) (aa (pv 1) ah)))))), ?_⟩
  rcases a with _ | a <;> rcases b with _ | b
  ·obtain rfl : v = .non := ha
   obtain rfl : u = .non := hb
   walk_at "gzn"
   exact q _ rfl (.inl rfl)
  ·obtain rfl : v = .non := ha
   obtain ⟨r, rfl, dC⟩ := id hb
   walk_at "gzn"
   exact q _ hb (.inr rfl)
  ·obtain rfl : u = .non := hb
   obtain ⟨r, rfl, dC⟩ := id ha
   walk_at "gzn"
   exact q _ ha (.inl rfl)
  ·obtain ⟨r, rfl, dC⟩ := id ha
   obtain ⟨r2, rfl, PB⟩ := id hb
   walk_at "gzn"
   refine ⟨a, dC, b, PB, ?_⟩
   by_cases hl : cZ b a = true
   ·rw [if_pos hl]
    exact q _ (by show aW H _ (c6 a b); unfold c6; rw [if_pos hl]; exact hb) (.inr rfl)
   ·rw [if_neg hl]
    exact q _ (by show aW H _ (c6 a b); unfold c6; rw [if_neg hl]; exact ha) (.inl rfl)
noncomputable def PD (K : PySem.W.Frag) : Sp := fun vs H Q _ => ∃ (v : V) (a : Option P2) (b : Int), vs = [v, .int b] /\ cg H v a /\ ∀ x H', aj H H' -> cg H' x (mw a b) -> Q x H'
theorem Hw (T : Tx K mg) : aL P w K mg base (aM P w) 1 T.iR T.uM ["one", "by"] (PD K) := by
 refine okN T.ky OE (fun vs H Q E h => ?_) (fun aD A outer s H vs Q E hr h => ?_)
 ·obtain ⟨v, a, b, rfl, _⟩ := h
  rfl
 ·obtain ⟨v, a, b, rfl, ha, q⟩ := h
  refine ⟨_, (ax (aV (Ds (c7 (jz (pv 0))) eX (bH (aa (aA a8 (au az (pv 0) ae (fun _ _ => rfl)) (pv 1)) (aa (au az (pv 0) ae (fun _ _ => rfl)) ah)))))), ?_⟩
  rcases a with _ | a
  ·obtain rfl : v = .non := ha
   walk_at "gzn"
   exact q _ _ (aj.refl _) rfl
  ·obtain ⟨r, rfl, dC⟩ := id ha
   walk_at "gzn"
   refine aI (ar.of dC) rfl ?_
   walk_at "gzn"
   refine aI (ar.of dC) rfl ⟨bQ, fun p hp => q _ _ (aB hp) ⟨p, rfl, aw⟩⟩
noncomputable def PF (K : PySem.W.Frag) : Sp := fun vs H Q _ => ∃ (a b : Addr) (xs ys : List V) (ps : List P2) (ms : List Mk), vs = [.ref a, .ref b] /\ ai K H a xs /\ cc H xs ps /\ ai K H b ys /\ ak (fU H) ys ms /\ iB ps /\ ps.length <= 900 /\ ms.length <= 1000 /\ (∀ m ∈ ms, m.1 <= ps.length) /\
 ∀ l zs ts H', aj H H' -> H l = none -> H' l = some (.lst zs) -> ak (cg H') zs ts -> ts.length = ps.length + 1 -> ke ps ms (cf ts) -> Q (.ref l) H'
noncomputable def kG (P : Nat -> (Nat -> Option P2) -> Prop) (H : Hp) (a b l : Addr) (n : Nat) (i : Nat) (σ : St) (H1 : Hp) : Prop := ∃ (zs : List V) (ts : List (Option P2)) (e1 e2 e3 : Option V), σ = [some (.ref a), some (.ref b), some (.ref l), e1, e2, e3] /\ aj H H1 /\ H1 l = some (.lst zs) /\ ak (cg H1) zs ts /\ ts.length = n + 1 /\ P i (cf ts)
theorem cg.put {H : Hp} {v : V} {o : Option P2} {l : Addr} {ys zs : List V} (h : cg H v o) (hl : H l = some (.lst ys)) : cg (upd H l (.lst zs)) v o := by
 cases o with
 | none => exact h
 | some p => exact aW.put h hl
theorem ak.Hy {α : Type} {R : V -> α -> Prop} {x : V} {a : α} (r : R x a) : ∀ {xs : List V} {as : List α} (j : Nat), ak R xs as -> ak R (xs.set j x) (as.set j a)
 | [], [], _, _ => trivial
 | _ :: _, _ :: _, 0, h => ⟨r, h.2⟩
 | _ :: _, _ :: _, j + 1, h => ⟨h.1, ak.Hy r j h.2⟩
 | [], _ :: _, _, h => h.elim
 | _ :: _, [], _, h => h.elim
theorem n5 {H : Hp} {zs : List V} {ts : List (Option P2)} {t : Nat} (h : ak (cg H) zs ts) (ht : t < ts.length) : ∃ v, cV zs (t : Int) = some v /\ cg H v (cf ts t) := by
 obtain ⟨v, hv, r⟩ := h.at (List.getElem?_eq_getElem ht)
 refine ⟨v, gA hv, ?_⟩
 unfold cf
 rw [List.getD_eq_getElem?_getD, List.getElem?_eq_getElem ht]
 exact r
theorem zU {n t : Nat} (h : t < n) : gy n (t : Int) = some t := by
 unfold gy
 rw [if_pos (by omega), if_pos (by omega), Int.toNat_natCast]
theorem zV {P : Nat -> (Nat -> Option P2) -> Prop} {H : Hp} {a b l : Addr} {n i : Nat} {zs : List V} {ts : List (Option P2)} {H1 : Hp} {v : V} {x : Option P2} {t : Nat} {d1 d2 d3 : Option V} (gY : H l = none) (s : aj H H1) (hl : H1 l = some (.lst zs)) (hz : ak (cg H1) zs ts) (hlen : ts.length = n + 1) (hv : cg H1 v x) (ht : t < n + 1) (hP : P i (fS (cf ts) t x)) : kG P H a b l n i [some (.ref a), some (.ref b), some (.ref l), d1, d2, d3] (upd H1 l (.lst (zs.set t v))) :=
 ⟨zs.set t v, ts.set t x, d1, d2, d3, rfl, jR gY s, aw, (ak.Hy hv t hz).imp fun _ _ r => r.put hl, by rw [List.length_set]; exact hlen, by rw [MN (by omega)]; exact hP⟩
theorem PH (n : Nat) : iy ((n : Int) - 1) (-1) (-1) = n := by
 unfold iy Builtin.Range.rangeSize
 simp only [show ¬ ((-1 : Int) > 0) by omega, if_false, show (- (-1 : Int)) = 1 by omega, Int.ediv_one]
 split <;> omega
theorem PJ (T : Tx K mg) : aL P w K mg base (aM P w) 2 T.iS T.uN ["steps", "marks"] (PF K) := by
 refine okN T.nE nz (fun vs H Q E h => ?_) (fun aD A outer s H vs Q E hr h => ?_)
 ·obtain ⟨a, b, xs, ys, ps, ms, rfl, _⟩ := h
  rfl
 ·obtain ⟨a, b, xs, ys, ps, ms, rfl, hS, hP, hT, hM, ag, hn, hm, ht, q⟩ := h
  refine ⟨_, (ao (LB (i := 2) (eM.mk (fr := []) (ys := []) rfl (by decide +kernel) rfl (by decide +kernel) rfl rfl .nil .nil (by decide) rfl) rfl nz.nd rfl rfl (jD rfl T.gW (aa (aA a8 (bX jG (by rfl) T.gU ik (aa (pv 0) ah)) ae) ah)) (fun C s2 H2 ex pn => ⟨lT, eX⟩))
  (ao (c9 PassesOwn.never rfl (EU rfl T.zO (aa (pv 1) ah)) (jC rfl (c8 (bz (i := 3) nz.nd rfl (Or.inl rfl)) (c8 (bz (i := 4) nz.nd rfl (Or.inl rfl)) jB))) (ax (bc (c7 (h9 (au az (au az (pv 4) ae (fun _ _ => rfl)) ae (fun _ _ => rfl)))) (ax (xH (aG (zT T) (hr.mono (by decide)) rfl T.uL T.iQ.kp T.nD .nil aC (aa (au az (pv 2) (au az (pv 4) ae (fun _ _ => rfl)) (fun _ _ => rfl)) (aa (bH (aa (au az (au az (pv 4) ae (fun _ _ => rfl)) ae (fun _ _ => rfl)) (aa (pv 3) ah))) ah))) (xG (pv 2) (au az (pv 4) ae (fun _ _ => rfl)) set_list))) bf)))
  (ao (c9 PassesOwn.never rfl (jD rfl T.gW (aa (bX jG (by rfl) T.gU ik (aa (pv 0) ah)) ah)) (bz (i := 5) nz.nd rfl (Or.inl rfl)) (ax (xH (aG (zT T) (hr.mono (by decide)) rfl T.uL T.iQ.kp T.nD .nil aC (aa (au az (pv 2) (aA a8 (pv 5) ae) (fun _ _ => rfl)) (aa (aG (Hw T) (hr.mono (by decide)) rfl T.zI T.ky.kp T.qG .nil aC (aa (au az (pv 2) (pv 5) (fun _ _ => rfl)) (aa (au az (au az (pv 0) (pv 5) (fun _ _ => rfl)) ae (fun _ _ => rfl)) ah))) ah))) (xG (pv 2) (aA a8 (pv 5) ae) set_list))))
  (ao (c9 PassesOwn.never rfl (LM rfl T.gW (aa (aA ff (bX jG (by rfl) T.gU ik (aa (pv 0) ah)) ae) (aa (rY r9 ae) (aa (rY r9 ae) ah)))) (bz (i := 5) nz.nd rfl (Or.inl rfl)) (ax (xH (aG (zT T) (hr.mono (by decide)) rfl T.uL T.iQ.kp T.nD .nil aC (aa (au az (pv 2) (pv 5) (fun _ _ => rfl)) (aa (aG (Hw T) (hr.mono (by decide)) rfl T.zI T.ky.kp T.qG .nil aC (aa (au az (pv 2) (aA a8 (pv 5) ae) (fun _ _ => rfl)) (aa (rY r9 (au az (au az (pv 0) (pv 5) (fun _ _ => rfl)) ae (fun _ _ => rfl))) ah))) ah))) (xG (pv 2) (pv 5) set_list))))
  (ax (aV (pv 2))))))), ?_⟩
  have l1 := hP.len
  have l2 := hM.len
  refine aO (fun σ H1 => ∃ l, σ = [some (.ref a), some (.ref b), some (.ref l), none, none, none] /\ aj H H1 /\ H l = none /\ H1 l = some (.lst (List.replicate (ps.length + 1) .non))) (fun N hN => ?_) ?_
  ·walk_at "gzn"
   refine ⟨_, jQ hS, by omega, by omega, ?_⟩
   rw [l1, show ((ps.length : Int) + 1).toNat = ps.length + 1 by omega]
   refine j6 yA (by rw [List.length_map, List.length_range]; exact Nat.le_trans (by omega : _ <= 901) (by decide)) (tJ (p := fun _ => true) (f := fun _ => .non) trivial (fun x _ Q h => ?_) (fun x _ _ Q h => ?_) ?_)
   ·walk_at "gzn"
    exact h
   ·walk_at "gzn"
    exact h
   rw [List.nil_append, filter_tt]
   intro l hl
   refine hN _ _ ⟨l, rfl, aB hl, hl, ?_⟩
   rw [aw]
   congr 2
   refine List.ext_getElem? fun k => ?_
   rw [List.getElem?_map, List.getElem?_map, List.getElem?_replicate]
   by_cases hk : k < ps.length + 1
   ·rw [List.getElem?_range hk, if_pos hk]; rfl
   ·rw [List.getElem?_eq_none (by rw [List.length_range]; omega), if_neg hk]; rfl
  rintro σ H1 ⟨l, rfl, s1, gY, uw⟩
  refine aO (kG (T1 ps ms) H a b l ps.length ms.length) (fun N hN => ?_) ?_
  ·walk_at "gzn"
   refine ⟨⟨_, s1.seq hT⟩, EW (xs := ys) (kG (T1 ps ms) H a b l ps.length) ⟨_, List.replicate (ps.length + 1) none, _, _, _, rfl, s1, uw, ?_, by rw [List.length_replicate], by rw [MO]; exact T1.nil⟩ ?_ ?_ ?_⟩
   ·have : ∀ k, ak (cg H1) (List.replicate k .non) (List.replicate k none) := fun k => by
     induction k with
     | zero => exact trivial
     | succ k ih => exact ⟨rfl, ih⟩
    exact this _
   ·rintro i σ H2 _ ⟨_, _, _, _, _, _, s2, _⟩
    exact s2.seq hT
   ·rintro i x σ H2 p hx ⟨zs, ts, d1, d2, d3, rfl, s2, bP, hz, dD, n6⟩ hp
    obtain ⟨m, kH, tp, sp, rfl, h1, h2⟩ := hM.get hx
    have rf := ht m (List.mem_of_getElem? kH)
    have up := aB (o := .tup [.int i, .ref tp]) hp
    refine lZ (ar.of aw) ?_
    generalize upd H2 p (.tup [.int i, .ref tp]) = H3 at up ⊢
    have s3 := s2.trans up
    have g1 := s3 _ _ h1
    have g2 := s3 _ _ h2
    have cj := up _ _ bP
    have dX := hz.imp fun _ _ r => r.same up
    obtain ⟨mt, lo, hi⟩ := m
    walk_at "gzn"
    refine aI (ar.of g1) rfl (aI (ar.of g2) rfl ?_)
    cases hi with
    | none =>
     walk_at "gzn"
     exact ⟨zs, ts, _, _, _, rfl, s3, cj, dX, dD, n6.skip kH rfl⟩
    | some h =>
     walk_at "gzn"
     obtain ⟨v, hv, rv⟩ := n5 dX (t := mt) (by dsimp only at rf; omega)
     refine aI (ar.of g1) rfl (a9 (ai.of cj) hv (aI (ar.of g1) rfl (aI (ar.of g2) rfl ?_)))
     walk_at "gzn"
     refine ⟨bQ, fun t1 n4 => ?_⟩
     have ut := aB (o := .tup [.int h, .int i]) n4
     have S4 := s3.trans ut
     refine ⟨v, .ref t1, _, some (h, (i : Int)), rfl, rv.same ut, ⟨t1, rfl, aw⟩, fun y hy _ => ?_⟩
     refine aI (ar.of (ut _ _ g1)) rfl ?_
     exact ⟨zs, _, rfl, ut _ _ cj, mt, zU (by rw [hz.len, dD]; dsimp only at rf; omega), zV gY S4 (ut _ _ cj) (dX.imp fun _ _ r => r.same ut) dD hy (by dsimp only at rf; omega) (n6.put kH rfl)⟩
   ·rintro σ H2 h
    rw [l2] at h
    exact hN _ _ h
  rintro σ H2 h2
  refine aO (kG (T2 ps ms) H a b l ps.length ps.length) (fun N hN => ?_) ?_
  ·obtain ⟨zs, ts, d1, d2, d3, rfl, s2, bP, hz, dD, n6⟩ := h2
   walk_at "gzn"
   refine ⟨_, jQ (s2.seq hS), ?_⟩
   rw [l1]
   refine ⟨by omega, by omega, ?_⟩
   rw [Int.toNat_natCast]
   refine tf (kG (T2 ps ms) H a b l ps.length) ⟨zs, ts, d1, d2, d3, rfl, s2, bP, hz, dD, n6.two⟩ ?_ (fun σ H3 h => hN _ _ h)
   rintro i σ H3 hi ⟨zs, ts, d1, d2, d3, rfl, s3, cj, dX, dD, PK⟩
   have zl := dX.len
   obtain ⟨v, hv, rv⟩ := n5 dX (t := i + 1) (by omega)
   obtain ⟨u, hu, ru⟩ := n5 dX (t := i) (by omega)
   obtain ⟨w, hw, tw, rfl, kI⟩ := hP.at (Hv hi)
   walk_at "gzn"
   rw [show (0 : Int) + (i : Int) = ((i : Nat) : Int) by omega, show ((i : Nat) : Int) + 1 = ((i + 1 : Nat) : Int) by omega]
   refine a9 (ai.of cj) hv (a9 (ai.of cj) hu (a9 (s3.seq hS) (gA hw) (aI (ar.of (s3 _ _ kI)) rfl ?_)))
   refine ⟨u, _, _, rfl, ru, fun y H4 s4 hy => ?_⟩
   refine ⟨v, y, _, _, rfl, rv.same s4, hy, fun z kJ _ => ?_⟩
   exact ⟨zs, s4 _ _ cj, i + 1, zU (by omega), zV gY (s3.trans s4) (s4 _ _ cj) (dX.imp fun _ _ r => r.same s4) dD kJ (by omega) (PK.step ag ht hi)⟩
  rintro σ H3 h3
  refine aO (kG (fun i => T3 ps ms (ps.length - i)) H a b l ps.length ps.length) (fun N hN => ?_) ?_
  ·obtain ⟨zs, ts, d1, d2, d3, rfl, s2, bP, hz, dD, n6⟩ := h3
   walk_at "gzn"
   refine ⟨_, jQ (s2.seq hS), ?_⟩
   rw [l1, PH]
   refine ⟨by omega, by omega, by decide, by decide, by decide, by decide, by decide, LO (kG (fun i => T3 ps ms (ps.length - i)) H a b l ps.length) ⟨zs, ts, d1, d2, d3, rfl, s2, bP, hz, dD, n6.three⟩ ?_ (fun σ H3 h => hN _ _ h)⟩
   rintro i σ H3 hi ⟨zs, ts, d1, d2, d3, rfl, s3, cj, dX, dD, kK⟩
   have zl := dX.len
   obtain ⟨j, hj⟩ : ∃ j, ps.length = j + 1 + i := ⟨ps.length - 1 - i, by omega⟩
   obtain ⟨v, hv, rv⟩ := n5 dX (t := j + 1) (by omega)
   obtain ⟨u, hu, ru⟩ := n5 dX (t := j) (by omega)
   obtain ⟨w, hw, tw, rfl, kI⟩ := hP.at (Hv (ps := ps) (i := j) (by omega))
   walk_at "gzn"
   rw [show (ps.length : Int) - 1 + (i : Int) * -1 = ((j : Nat) : Int) by omega, show ((j : Nat) : Int) + 1 = ((j + 1 : Nat) : Int) by omega]
   refine a9 (ai.of cj) hu (a9 (ai.of cj) hv (a9 (s3.seq hS) (gA hw) (aI (ar.of (s3 _ _ kI)) rfl ?_)))
   walk_at "gzn"
   refine ⟨v, _, _, rfl, rv, fun y H4 s4 hy => ?_⟩
   refine ⟨u, y, _, _, rfl, ru.same s4, hy, fun z kJ _ => ?_⟩
   refine ⟨zs, s4 _ _ cj, j, zU (by omega), zV gY (s3.trans s4) (s4 _ _ cj) (dX.imp fun _ _ r => r.same s4) dD kJ (by omega) ?_⟩
   show T3 ps ms (ps.length - (i + 1)) _
   rw [show ps.length - (i + 1) = j by omega]
   have kK : T3 ps ms (ps.length - i) (cf ts) := kK
   rw [show ps.length - i = j + 1 by omega] at kK
   exact kK.step ag ht (by omega)
  rintro σ H4 ⟨zs, ts, d1, d2, d3, rfl, s4, kL, zW, dD, Hz⟩
  rw [Nat.sub_self] at Hz
  walk_at "gzn"
  exact q l zs ts H4 s4 gY kL zW dD Hz.tops
end
section
seal L2.PE L2.PS L2.bo L2.PA
variable {P : Program} {w : World} {K : PySem.W.Frag} {mg : Str -> Option Value} {base : Heap}
noncomputable def PL (K : PySem.W.Frag) : Sp := fun vs H Q _ => ∃ (a b : Addr) (zs ys : List V) (ts : List (Option P2)) (ms : List Mk), vs = [.ref a, .ref b] /\ ai K H a zs /\ ak (cg H) zs ts /\ ai K H b ys /\ ak (fU H) ys ms /\ (∀ m ∈ ms, m.1 < ts.length) /\
 (ud ms (cf ts) -> ∀ H', aj H H' -> Q .non H') /\
 (∀ (j : Nat) m l v k, ms[j]? = some m -> m.2.1 = some l -> cf ts m.1 = some (v, k) -> v < l -> ∀ p H', aj H H' -> H p = none -> H' p = some (.tup [.int k, .int j]) -> Q (.ref p) H')
noncomputable def PM (H : Hp) (a b : Addr) (ts : List (Option P2)) (ms : List Mk) (i : Nat) (σ : St) (H1 : Hp) : Prop := ∃ (e1 e2 e3 : Option V), σ = [some (.ref a), some (.ref b), e1, e2, e3] /\ aj H H1 /\ ud (ms.take i) (cf ts)
theorem PN (T : Tx K mg) : aL P w K mg base (aM P w) 1 T.iT T.uP ["tops", "marks"] (PL K) := by
 refine okN T.nF uC (fun vs H Q E h => ?_) (fun aD A outer s H vs Q E hr h => ?_)
 ·obtain ⟨a, b, zs, ys, ts, ms, rfl, _⟩ := h
  rfl
 ·obtain ⟨a, b, zs, ys, ts, ms, rfl, hA, hZ, hT, hM, ht, q0, q⟩ := h
  refine ⟨_, (ao (c9 PassesOwn.never rfl (EU rfl T.zO (aa (pv 1) ah)) (jC rfl (c8 (bz (i := 2) uC.nd rfl (Or.inl rfl)) (c8 (bz (i := 3) uC.nd rfl (Or.inl rfl)) jB))) (ao (aF (i := 4) uC.nd rfl (Or.inl rfl) (au az (pv 0) (au az (pv 3) ae (fun _ _ => rfl)) (fun _ _ => rfl)))
   (ax (bc (PW.pt (oH (c7 (h9 (pv 4))) (oH (c7 (h9 (au az (au az (pv 3) ae (fun _ _ => rfl)) ae (fun _ _ => rfl)))) (rV (bN ig (au az (au az (pv 3) ae (fun _ _ => rfl)) ae (fun _ _ => rfl)) (au az (pv 4) ae (fun _ _ => rfl)) (bp _)))))) (ax (aV (bH (aa (au az (pv 4) ae (fun _ _ => rfl)) (aa (pv 2) ah))))) bf))))
  (ax (aV eX))), ?_⟩
  have l1 := hZ.len
  have l2 := hM.len
  walk_at "gzn"
  refine ⟨⟨_, hT⟩, EW (xs := ys) (PM H a b ts ms) ⟨_, _, _, rfl, aj.refl _, fun m h => by simp at h⟩ ?_ ?_ ?_⟩
  ·rintro i σ H2 _ ⟨_, _, _, _, s2, _⟩
   exact s2.seq hT
  ·rintro i x σ H2 p hx ⟨d1, d2, d3, rfl, s2, iC⟩ hp
   obtain ⟨m, kH, tp, sp, rfl, h1, h2⟩ := hM.get hx
   have rf := ht m (List.mem_of_getElem? kH)
   have up := aB (o := .tup [.int i, .ref tp]) hp
   refine lZ (ar.of aw) ?_
   generalize upd H2 p (.tup [.int i, .ref tp]) = H3 at up ⊢
   have s3 := s2.trans up
   have g1 := s3 _ _ h1
   have g2 := s3 _ _ h2
   have next : (∀ l v k, m.2.1 = some l -> cf ts m.1 = some (v, k) -> l <= v) -> ud (ms.take (i + 1)) (cf ts) := fun hh n hn => by
    rw [List.take_succ, kH] at hn
    rcases List.mem_append.mp hn with z | z
    ·exact iC n z
    ·obtain rfl : n = m := by simpa using z
     exact hh
   obtain ⟨v, hv, rv⟩ := n5 hZ rf
   obtain ⟨mt, lo, hi⟩ := m
   walk_at "gzn"
   refine aI (ar.of g1) rfl (a9 (s3.seq hA) hv ?_)
   cases et : cf ts mt with
   | none =>
    rw [show cf ts (mt, lo, hi).1 = none from et] at rv
    obtain rfl : v = .non := rv
    walk_at "gzn"
    exact ⟨_, _, _, rfl, s3, next fun l v k _ e => by rw [show cf ts (mt, lo, hi).1 = none from et] at e; cases e⟩
   | some q2 =>
    obtain ⟨w, k⟩ := q2
    rw [show cf ts (mt, lo, hi).1 = some (w, k) from et] at rv
    obtain ⟨rt, rfl, hrt⟩ := rv
    walk_at "gzn"
    refine aI (ar.of g1) rfl (aI (ar.of g2) rfl ?_)
    cases lo with
    | none =>
     walk_at "gzn"
     exact ⟨_, _, _, rfl, s3, next fun l v k e _ => by cases e⟩
    | some l =>
     walk_at "gzn"
     refine aI (ar.of g1) rfl (aI (ar.of g2) rfl (aI (ar.of (s3 _ _ hrt)) rfl ?_))
     walk_at "gzn"
     refine bC (fun hc => ?_) fun hc => ?_
     ·exact aI (ar.of (s3 _ _ hrt)) rfl ⟨bQ, fun r bV => q i _ l w k kH rfl et hc r _ (s3.trans (aB bV)) (s3.free bV) aw⟩
     ·exact ⟨_, _, _, rfl, s3, next fun l' v' k' e1 e2 => by
       cases e1
       rw [show cf ts (mt, some l, hi).1 = some (w, k) from et] at e2
       cases e2
       omega⟩
  ·rintro σ H2 ⟨d1, d2, d3, rfl, s2, iC⟩
   walk_at "gzn"
   rw [l2, List.take_length] at iC
   exact q0 iC _ s2
end
section
seal L2.PE L2.PS L2.bo L2.PA
variable {P : Program} {w : World} {K : PySem.W.Frag} {mg : Str -> Option Value} {base : Heap}
noncomputable def n9 (H : Hp) (v : V) (r : Int × List Mk) : Prop := ∃ (g k : Addr) (zs : List V), v = .ref g /\ H g = some (.tup [.int r.1, .ref k]) /\ H k = some (.lst zs) /\ ak (fU H) zs r.2
theorem n9.same {H H' : Hp} {v : V} {r : Int × List Mk} (h : n9 H v r) (s : aj H H') : n9 H' v r := let ⟨g, k, zs, e, a, b, c⟩ := h; ⟨g, k, zs, e, s _ _ a, s _ _ b, c.imp fun _ _ x => x.same s⟩
noncomputable def PO (K : PySem.W.Frag) (B : Addr) : Sp := fun vs H Q _ => ∃ (x p : Addr) (e t u d m : Int) (tb : Tb), vs = [.ref x] /\ cR B H x e t u d m p tb /\ (tb.map (·.1)).Nodup /\ tb.length < 64 /\ (∀ r ∈ tb, 0 <= r.1.2) /\ 0 <= e /\ e <= 7 /\ ∀ l ys H', aj H H' -> H l = none -> H' l = some (.lst ys) -> ak (n9 H') ys (eS e.toNat tb) -> Q (.ref l) H'
theorem PQ (T : Tx K mg) : aL P w K mg base (aM P w) 3 T.iZ T.u9 ["board"] (PO K T.aE) := by
 refine okN T.nM OI (fun vs H Q E h => ?_) (fun aD A outer s H vs Q E hr h => ?_)
 ·obtain ⟨x, p, e, t, u, d, m, tb, rfl, _⟩ := h
  rfl
 ·obtain ⟨x, p, e, t, u, d, m, tb, rfl, hb, cE, cO, bV, h0, h7, q⟩ := h
  refine ⟨_, (ax (aV (j4 (eM.mk (fr := [0]) (ys := ["board"]) rfl (by decide +kernel) rfl (by decide +kernel) rfl rfl (.cons rfl .nil) (.cons rfl rfl rfl rfl .nil) (by decide) rfl) rfl (jD rfl T.gW (aa (fg (pv 0) rfl) ah)) (fun C s2 H2 ex pn => ⟨lT, (bH (aa (pv 0) (aa (aG (Py T) (hr.mono (by decide)) rfl T.G0 T.nK.kp T.u7 .nil aC (aa (pv 1) (aa (pv 0) ah))) ah)))⟩)))), ?_⟩
  obtain ⟨⟨dx, hx⟩, hp⟩ := id hb
  walk_at "gzn"
  refine ⟨_, _, _, hx, T.bw, T.jv, _, rfl, ?_⟩
  refine ⟨e, rfl, by omega, by omega, j6 yA (by rw [List.length_map, List.length_range]; exact Nat.le_trans (by omega : _ <= 12) (by decide)) (l9 (R := fun _ x (k : Nat) => x = V.int ((0 : Int) + k)) (R' := n9) (f := fun (k : Nat) => ((k : Int), iF tb (k : Int))) (fun _ _ _ _ _ h => h) (fun _ _ _ _ s' h => h.same s') (ak.g9 _) (bs := []) trivial (fun _ _ => trivial) (fun x k _ H2 s2 r Q h => ?_) (fun x k _ H2 s2 r Q h => ?_) fun H2 zs s2 hz => ?_)⟩
  ·walk_at "gz"
   exact h
  ·subst r
   walk_at "gz"
   rw [Int.zero_add]
   refine ⟨x, p, e, t, u, d, m, (k : Int), tb, rfl, hb.same s2, cE, cO, bV, fun l ys H3 s3 _ hl hM => ⟨bQ, fun g hg => ?_⟩⟩
   have u1 := aB (o := .tup [.int (k : Int), .ref l]) hg
   exact h _ _ (s3.trans u1) ⟨g, l, ys, rfl, aw, u1 _ _ hl, hM.imp fun _ _ x => x.same u1⟩
  ·intro l hl
   rw [List.nil_append] at hz
   exact q l zs _ (s2.trans (aB hl)) (s2.free hl) aw (hz.imp fun _ _ r => r.same (aB hl))
end
section
seal L2.PE L2.PS L2.bo L2.PA
variable {P : Program} {w : World} {K : PySem.W.Frag} {mg : Str -> Option Value} {base : Heap}
noncomputable def fB (H : Hp) (v : V) (r : P2) : Prop := ∃ (t a b : Addr) (x y : V), v = .ref t /\ H t = some (.tup [.ref a, .ref b]) /\ H a = some (.tup [.int r.1, x]) /\ H b = some (.tup [.int r.2, y])
theorem fB.same {H H' : Hp} {v : V} {r : P2} (h : fB H v r) (s : aj H H') : fB H' v r := let ⟨t, a, b, x, y, e, h1, h2, h3⟩ := h; ⟨t, a, b, x, y, e, s _ _ h1, s _ _ h2, s _ _ h3⟩
theorem fB.put {H : Hp} {v : V} {r : P2} {l : Addr} {ys : List V} {o : HO} (h : fB H v r) (hl : H l = some (.lst ys)) : fB (upd H l o) v r := by
 obtain ⟨t, a, b, x, y, e, h1, h2, h3⟩ := h
 have nl : ∀ (z : Addr) (vs : List V), H z = some (.tup vs) -> z ≠ l := fun z vs e1 e2 => by rw [e2, hl] at e1; cases e1
 exact ⟨t, a, b, x, y, e, by rw [ay (nl _ _ h1)]; exact h1, by rw [ay (nl _ _ h2)]; exact h2, by rw [ay (nl _ _ h3)]; exact h3⟩
theorem PR {H H' : Hp} {v : V} {o : Option P2} {l : Addr} {ys : List V} (h : cg H v o) (hl : H l = some (.lst ys)) (k : ∀ b o, b ≠ l -> H b = some o -> H' b = some o) : cg H' v o := by
 cases o with
 | none => exact h
 | some p =>
  obtain ⟨t, e, a⟩ := h
  exact ⟨t, e, k _ _ (fun z => by rw [z, hl] at a; cases a) a⟩
noncomputable def og (H : Hp) (l : Addr) (rs : List P2) : Prop := ∃ zs, H l = some (.lst zs) /\ ak (fB H) zs rs
theorem og.same {H H' : Hp} {l : Addr} {rs : List P2} (h : og H l rs) (s : aj H H') : og H' l rs := let ⟨zs, a, b⟩ := h; ⟨zs, s _ _ a, b.imp fun _ _ x => x.same s⟩
noncomputable def PU (K : PySem.W.Frag) : Sp := fun vs H Q _ => ∃ (a b : Addr) (xs ys : List V) (ps : List P2) (gs : List (Int × List Mk)), vs = [.ref a, .ref b] /\ ai K H a xs /\ cc H xs ps /\ iB ps /\ ps.length <= 900 /\ ai K H b ys /\ ak (n9 H) ys gs /\ gs.length <= 7 /\ (∀ g ∈ gs, g.2.length <= 1000 /\ ∀ m ∈ g.2, m.1 <= ps.length) /\ ∀ l zs H', aj H H' -> H l = none -> H' l = some (.lst zs) -> ak (fB H') zs (dz ps gs gs) -> Q (.ref l) H'
noncomputable def HA (H : Hp) (a b l : Addr) (ps : List P2) (gs : List (Int × List Mk)) (i : Nat) (σ : St) (H1 : Hp) : Prop := ∃ (e1 e2 e3 e4 e5 e6 : Option V), σ = [some (.ref a), some (.ref b), some (.ref l), e1, e2, e3, e4, e5, e6] /\ aj H H1 /\ og H1 l (dz ps gs (gs.take i))
noncomputable def PV (H H0 : Hp) (a b l : Addr) (nm mk tp : V) (ps : List P2) (gs : List (Int × List Mk)) (g : Int × List Mk) (i j : Nat) (σ : St) (H1 : Hp) : Prop := ∃ (e4 e5 e6 : Option V), σ = [some (.ref a), some (.ref b), some (.ref l), some nm, some mk, some tp, e4, e5, e6] /\ aj H H1 /\ (∀ b o, b ≠ l -> H0 b = some o -> H1 b = some o) /\ og H1 l (dz ps gs (gs.take i) ++ dU ps g (gs.take j))
theorem PX (T : Tx K mg) : aL P w K mg base (aM P w) 3 T.i0 T.vd ["steps", "groups"] (PU K) := by
 refine okN T.nN iL (fun vs H Q E h => ?_) (fun aD A outer s H vs Q E hr h => ?_)
 ·obtain ⟨a, b, xs, ys, ps, gs, rfl, _⟩ := h
  rfl
 ·obtain ⟨a, b, xs, ys, ps, gs, rfl, hS, hP, ag, hn, hG, hA, h7, hm, q⟩ := h
  refine ⟨_, (ao (aF (i := 2) iL.nd rfl (Or.inl rfl) (ij ah))
  (ao (c9 PassesOwn.never rfl (fb (pv 1)) (jC rfl (c8 (bz (i := 3) iL.nd rfl (Or.inl rfl)) (c8 (bz (i := 4) iL.nd rfl (Or.inl rfl)) jB))) (ao (aF (i := 5) iL.nd rfl (Or.inl rfl) (aG (PJ T) (hr.mono (by decide)) rfl T.GU T.nE.kp T.uO .nil aC (aa (pv 0) (aa (pv 4) ah))))
    (ax (c9 PassesOwn.never rfl (fb (pv 1)) (jC rfl (c8 (bz (i := 6) iL.nd rfl (Or.inl rfl)) (c8 (bz (i := 7) iL.nd rfl (Or.inl rfl)) jB))) (ao (aF (i := 8) iL.nd rfl (Or.inl rfl) (aG (PN T) (hr.mono (by decide)) rfl T.GV T.nF.kp T.uQ .nil aC (aa (pv 5) (aa (pv 7) ah))))
      (ax (bc (c7 (h9 (pv 8))) (ax (dE (DV PySem.F.plainAttrs_list PySem.F.slot_list_append PySem.F.type_list_append DW (pv 2) (aa (bH (aa (bH (aa (pv 3) (aa (au az (au az (pv 4) (au az (pv 8) ae (fun _ _ => rfl)) (fun _ _ => rfl)) ae (fun _ _ => rfl)) ah))) (aa (bH (aa (pv 6) (aa (au az (au az (pv 7) (au az (pv 8) ae (fun _ _ => rfl)) (fun _ _ => rfl)) ae (fun _ _ => rfl)) ah))) ah))) ah)))) bf)))))))
  (ax (aV (pv 2))))), ?_⟩
  have yl := hA.len
  refine aO (fun σ H1 => ∃ l, σ = [some (.ref a), some (.ref b), some (.ref l), none, none, none, none, none, none] /\ aj H H1 /\ H l = none /\ H1 l = some (.lst [])) (fun N hN => ?_) ?_
  ·walk_at "gzn"
   exact ⟨by decide, fun l hl => hN _ _ ⟨l, rfl, aB hl, hl, aw⟩⟩
  rintro σ H1 ⟨l, rfl, s1, fl, hl⟩
  refine aO (fun σ H2 => HA H a b l ps gs ys.length σ H2) (fun N hN => ?_) ?_
  ·walk_at "gzn"
   refine ⟨⟨_, s1.seq hG⟩, lO (xs := ys) (HA H a b l ps gs) ⟨_, _, _, _, _, _, rfl, s1, [], hl, trivial⟩ ?_ ?_ (fun σ H' h => hN _ _ h)⟩
   ·rintro i σ H2 _ ⟨_, _, _, _, _, _, _, s2, _⟩
    exact s2.seq hG
   ·rintro i x σ H2 hx ⟨_, _, _, _, _, _, rfl, s2, h2⟩
    obtain ⟨r, hr, gg, k, zs, rfl, h3, h4, h5⟩ := hA.get hx
    have zX := hm r (List.mem_of_getElem? hr)
    refine lZ (ar.of (s2 _ _ h3)) ?_
    walk_at "gzn"
    refine ⟨a, k, xs, zs, ps, r.2, rfl, s2.seq hS, hP.same s2, ai.of (s2 _ _ h4), h5.imp fun _ _ x => x.same s2, ag, hn, zX.1, zX.2, fun tp us ts H3 s3 HB PY PZ dD TT => ?_⟩
    have S3 := s2.trans s3
    walk_at "gzn"
    refine ⟨⟨_, S3.seq hG⟩, lO (xs := ys) (PV H H3 a b l (.int r.1) (.ref k) (.ref tp) ps gs r i) ⟨_, _, _, rfl, S3, fun _ _ _ e => e, ?_⟩ ?_ ?_ ?_⟩
    ·rw [show dU ps r (gs.take 0) = [] from rfl, List.append_nil]
     exact h2.same s3
    ·rintro j σ H4 _ ⟨_, _, _, _, s4, _, _⟩
     exact s4.seq hG
    ·rintro j y σ H4 hy ⟨_, _, _, rfl, s4, b4, ws, h6, zY⟩
     obtain ⟨r', rg, Xe, k', P4, rfl, g3, g4, g5⟩ := hA.get hy
     have zZ := hm r' (List.mem_of_getElem? rg)
     obtain ⟨ls, hls, _⟩ := h2
     have P5 : tp ≠ l := fun z => by rw [z, hls] at HB; cases HB
     have wd := b4 _ _ P5 PY
     have zW := PZ.imp fun _ _ x => PR x (s3 _ _ hls) b4
     refine lZ (ar.of (s4 _ _ g3)) ?_
     walk_at "gzn"
     refine ⟨tp, k', us, P4, ts, r'.2, rfl, ai.of wd, zW, ai.of (s4 _ _ g4), g5.imp fun _ _ x => x.same s4, fun m dY => by have := zZ.2 m dY; omega, fun iC H5 s5 => ?_, fun jj m lo v kk e1 e2 e3 e4 p H5 s5 fp hp => ?_⟩
     ·walk_at "gzn"
      refine ⟨_, _, _, rfl, s4.trans s5, fun b o hb e => s5 _ _ (b4 b o hb e), ?_⟩
      rw [GJ rg, if_neg (fun hc => by
       obtain ⟨x1, m1, x2, m2, hc⟩ := zx.mp hc
       exact Om TT zX.2 zZ.2 iC m1 m2 hc), List.append_nil]
      exact og.same ⟨ws, h6, zY⟩ s5
     ·obtain ⟨i', a', rfl, aZ, hc⟩ := TT.gJ (zZ.2 m (List.mem_of_getElem? e1)) e3 e2 e4
      have kM := s5 _ _ h6
      have S5 := s4.trans s5
      obtain ⟨v1, gP, t1, w1, rfl, m1, _⟩ := (h5.imp fun _ _ x => fU.same x S5).at aZ
      obtain ⟨v2, ku, t2, w2, rfl, m2, _⟩ := (g5.imp fun _ _ x => fU.same x S5).at e1
      walk_at "gzn"
      refine ⟨.inl ⟨rfl, _, ai.of kM⟩, aI (ar.of hp) (v := .int i') rfl (a9 (ai.of (S5 _ _ h4)) (gA gP) (aI (ar.of m1) (v := .int a'.1) rfl ⟨bQ, fun p1 wb => ?_⟩))⟩
      have u1 := aB (o := .tup [.int r.1, .int a'.1]) wb
      refine aI (ar.of (u1 _ _ hp)) (v := .int jj) rfl (a9 (ai.of (u1 _ _ (S5 _ _ g4))) (gA ku) (aI (ar.of (u1 _ _ m2)) (v := .int m.1) rfl ⟨bQ, fun p2 jM => ⟨bQ, fun p3 we => ?_⟩⟩))
      have u2 := aB (o := .tup [.int r'.1, .int m.1]) jM
      have u3 := aB (o := .tup [.ref p1, .ref p2]) we
      have U := u1.trans (u2.trans u3)
      have rh := U _ _ kM
      have cq : fB (upd (upd (upd H5 p1 (.tup [.int r.1, .int a'.1])) p2 (.tup [.int r'.1, .int m.1])) p3 (.tup [.ref p1, .ref p2])) (.ref p3) (r.1, r'.1) := ⟨p3, p1, p2, _, _, rfl, aw, u3 _ _ (u2 _ _ aw), u3 _ _ aw⟩
      have wl : ws.length <= 100 := by
       have e8 := zY.len
       have l1 := zA ps gs (gs.take i)
       have l2 : (dU ps r (gs.take j)).length <= 7 := by
        unfold dU
        rw [List.length_map]
        exact Nat.le_trans (List.length_filter_le _ _) (by rw [List.length_take]; omega)
       have l3 : (gs.take i).length * gs.length <= 7 * 7 := Nat.mul_le_mul (by rw [List.length_take]; omega) h7
       rw [List.length_append] at e8
       omega
      refine ⟨ws, rh, Nat.lt_of_le_of_lt wl (by decide), _, _, _, rfl, jR fl (S5.trans U), fun b o hb e => by rw [ay hb]; exact U _ _ (s5 _ _ (b4 b o hb e)), _, aw, ?_⟩
      rw [GJ rg, if_pos (zx.mpr ⟨a', List.mem_of_getElem? aZ, m, List.mem_of_getElem? e1, hc⟩), <- List.append_assoc]
      exact ak.app (zY.imp fun _ _ x => (x.same (s5.trans U)).put rh) ⟨cq.put rh, trivial⟩
    ·rintro σ H4 ⟨_, _, _, rfl, s4, _, h6⟩
     refine ⟨_, _, _, _, _, _, rfl, s4, ?_⟩
     rw [Ou hr]
     rw [yl, List.take_length] at h6
     exact h6
  rintro σ H2 ⟨_, _, _, _, _, _, rfl, s2, h2⟩
  walk_at "gzn"
  rw [yl, List.take_length] at h2
  obtain ⟨zs, a1, a2⟩ := h2
  exact q l zs H2 s2 fl a1 a2
end
section
seal L2.PE L2.PS L2.bo L2.PA
variable {P : Program} {w : World} {K : PySem.W.Frag} {mg : Str -> Option Value} {base : Heap}
theorem P6 {H : Hp} {u d : Int} (h : -d <= u) {n : Nat} {ys : List V} (hy : ak (iz H) ys (wc u d [] n)) : cc H ys (List.replicate n (-d, u)) := by
 have e : wc u d [] n = (List.replicate n (-d, u)).map GG := by
  rw [List.map_replicate]
  unfold wc
  refine List.ext_getElem (by simp) fun k h1 h2 => ?_
  rw [List.getElem_map, List.getElem_replicate]
  show kd (none, none) [(some (-d), some u)] = some (some (-d), some u)
  unfold kd
  rw [if_neg]
  ·rfl
  ·show ¬ (bg (some (-d)) (some u)) = true
   simp [bg]
   omega
 rw [e] at hy
 exact GH hy
theorem P7 {K : PySem.W.Frag} {H1 H' : Hp} {l : Addr} {ys : List V} {rs : List P2} (hl : H1 l = some (.lst ys)) (hM : ak (fB H1) ys rs) (s : aj H1 H') : kg K l ys (rowOf H1) 2 H' := by
 refine ⟨ai.of (s _ _ hl), fun x hx => ?_⟩
 obtain ⟨i, hi⟩ := List.mem_iff_getElem?.mp hx
 obtain ⟨m, _, t, a, b, y, z, rfl, h1, _⟩ := hM.get hi
 rw [mx h1]
 exact ⟨t, rfl, ar.of (s _ _ h1), rfl⟩
theorem z0 {K : PySem.W.Frag} {H : Hp} : ∀ {zs : List V} {rs : List P2}, ak (aW H) zs rs -> cy K H zs (fy rs)
 | [], [], _ => trivial
 | _ :: _, _ :: _, h => ⟨let ⟨t, e, a⟩ := h.1; ⟨t, e, ar.of a, fun z => nomatch z⟩, z0 h.2⟩
 | [], _ :: _, h => h.elim
 | _ :: _, [], h => h.elim
noncomputable def gZ (k : List Int) : P2 := (k.getD 0 0, k.getD 1 0)
noncomputable def fZ (r : P2) : P2 := (if r.2 < r.1 then r.2 else r.1, if r.1 < r.2 then r.2 else r.1)
noncomputable def P8 (K : PySem.W.Frag) (B : Addr) : Sp := fun vs H Q _ => ∃ (x p : Addr) (e t u d m : Int) (tb : Tb), vs = [.ref x] /\ cR B H x e t u d m p tb /\ bR e t tb /\ tb.length < 64 /\ 0 <= e /\ e <= 7 /\ 1 <= t /\ t <= 12 /\ 0 <= u /\ 0 <= d /\ ∀ l ys ks H', aj H H' -> H l = none -> H' l = some (.lst ys) -> ks.Nodup -> (∀ p, p ∈ ks ↔ fu u d tb p) -> ak (aW H') ys (gR ks) -> Q (.ref l) H'
theorem HC (T : Tx K mg) : aL P w K mg base (aM P w) 5 T.i3 T.vf ["board"] (P8 K T.aE) := by
 refine okN T.kz zD (fun vs H Q E h => ?_) (fun aD A outer s H vs Q E hr h => ?_)
 ·obtain ⟨x, p, e, t, u, d, m, tb, rfl, _⟩ := h
  rfl
 ·obtain ⟨x, p, e, t, u, d, m, tb, rfl, hb, ag, cO, e0, e7, t1, P9, u0, d0, q⟩ := h
  refine ⟨_, (ao (aF (i := 1) zD.nd rfl (Or.inl rfl) (aG (PX T) (hr.mono (by decide)) rfl T.G2 T.nN.kp T.ve .nil aC (aa (aG (Pw T) (hr.mono (by decide)) rfl T.GZ T.nJ.kp T.uY .nil aC (aa (pv 0) (aa (ij ah) ah))) (aa (aG (PQ T) (hr.mono (by decide)) rfl T.G1 T.nM.kp T.vc .nil aC (aa (pv 0) ah)) ah))))
  (ao (L4 (g := gk K 2 (b8 (bG 0) (b8 (bG 1) gh))) (i := 2) (l5.mk (own := ["one", "other"]) (fr := []) (ys := []) rfl (by decide +kernel) rfl (by decide +kernel) rfl .nil .nil rfl) rfl zD.nd rfl rfl (fb (pv 1)) (fun C s2 H2 ex pn => jC (n := 2) rfl (c8 (bz (i := 0) (show (["one", "other"] : List Str).Nodup by decide) rfl (.inl (lookup_relabel_local rfl)) (.inr (lookup_relabel_local rfl))) (c8 (bz (i := 1) (show (["one", "other"] : List Str).Nodup by decide) rfl (.inl (lookup_relabel_local rfl)) (.inr (lookup_relabel_local rfl))) jB))) (fun C s2 H2 ex pn => ⟨lT, (bH (aa (bX (o6 rfl) (by rfl) T.ju jP (aa (au (fj (K := K) rfl) (pv 0) ae (fun _ _ => rfl)) (aa (au (fj (K := K) rfl) (pv 1) ae (fun _ _ => rfl)) ah))) (aa (bX (DA rfl) (by rfl) T.vY x8 (aa (au (fj (K := K) rfl) (pv 0) ae (fun _ _ => rfl)) (aa (au (fj (K := K) rfl) (pv 1) ae (fun _ _ => rfl)) ah))) ah)))⟩))
  (ax (aV (Ob rfl hr.units (pv 2) (by rfl) T.qZ sF (by rfl) T.He Nz))))), ?_⟩
  obtain ⟨⟨dx, hx⟩, htb⟩ := id hb
  walk_at "gzn"
  obtain ⟨kvs, kN, Xf⟩ := id htb
  refine ⟨Nat.zero_le _, fun r bV => ?_⟩
  have u1 := aB (o := .lst []) bV
  refine ⟨x, p, r, e, t, u, d, m, kvs, [], [], rfl, ⟨⟨dx, u1 _ _ hx⟩, u1 _ _ kN⟩, t1, P9, ai.of aw, trivial, by decide, fun z => absurd (fun _ h => (nomatch h)) z, fun _ st sv H1 s1 _ dF hy => ?_⟩
  have S1 := u1.trans s1
  refine ⟨x, p, e, t, u, d, m, tb, rfl, hb.same S1, ag.1, cO, fun r hr => (ag.2 r hr).2.1, e0, e7, fun gl gv H2 s2 _ Qa Qb => ?_⟩
  have S2 := S1.trans s2
  have Qc := (P6 (n := (t - 1).toNat) (by omega) hy).same s2
  have gn : (eS e.toNat tb).length <= 7 := by unfold eS; rw [List.length_map, List.length_range]; omega
  refine ⟨st, gl, sv, gv, List.replicate (t - 1).toNat (-d, u), eS e.toNat tb, rfl, ai.of (s2 _ _ dF), Qc, fun pp Qd => by rw [List.eq_of_mem_replicate Qd]; show -d <= u; omega, by rw [List.length_replicate]; omega, ai.of Qa, Qb, gn, fun gq Qe => ?_, fun fl fv H3 s3 _ HD wg => ?_⟩
  ·obtain ⟨i, _, rfl⟩ := List.mem_map.mp Qe
   refine ⟨Nat.le_trans (by unfold iF; rw [List.length_map]; exact Nat.le_trans (List.length_filter_le _ _) (by rw [uc]; exact Nat.le_refl _)) (by omega : tb.length <= 1000), fun mm dY => ?_⟩
   obtain ⟨r, hr, _, rfl⟩ := qB.mp dY
   have Qf := ag.2 r hr
   unfold kc at Qf
   rw [List.length_replicate]
   show r.1.2.toNat <= _
   omega
  have S3 := S2.trans s3
  have ol := zA (List.replicate (t - 1).toNat (-d, u)) (eS e.toNat tb) (eS e.toNat tb)
  have Xg : (eS e.toNat tb).length * (eS e.toNat tb).length <= 7 * 7 := Nat.mul_le_mul gn gn
  have Qg := wg.len
  generalize HE : dz (List.replicate (t - 1).toNat (-d, u)) (eS e.toNat tb) (eS e.toNat tb) = OC at ol wg Qg
  refine ⟨fl, rfl, ⟨_, ai.of HD⟩, MS (row := rowOf H3) (Nat.le_trans (by omega : fv.length <= 64) (by decide)) (l9 (R := fun _ x (r : P2) => fB H3 x r) (R' := aW) (f := fZ) (fun _ _ _ _ _ h => h) (fun _ _ _ _ s' h => h.same s') wg (bs := []) trivial (fun H' s' => P7 HD wg s') (fun v k _ H4 s4 h1 Q h => ?_) (fun v k _ H4 s4 h1 Q h => ?_) fun H4 zs s4 hz => ?_)⟩
  ·obtain ⟨ta, a1, b1, y1, z1, rfl, ha, _⟩ := h1
   unfold fm
   dsimp only
   rw [mx ha]
   walk_at "gzn"
   exact h
  ·obtain ⟨ta, a1, b1, y1, z1, rfl, ha, wj, HF⟩ := h1
   unfold fo
   dsimp only
   rw [mx ha]
   walk_at "gzn"
   refine aI (ar.of (s4 _ _ wj)) (v := .int k.1) rfl (aI (ar.of (s4 _ _ HF)) (v := .int k.2) rfl ⟨_, rfl, _, rfl, aI (ar.of (s4 _ _ wj)) (v := .int k.1) rfl (aI (ar.of (s4 _ _ HF)) (v := .int k.2) rfl ⟨_, rfl, _, rfl, bQ, fun t1 n4 => h _ _ (aB n4) ⟨t1, rfl, aw⟩⟩)⟩)
  rw [List.nil_append] at hz
  have zl := hz.len
  rw [List.length_map] at zl
  intro pl dj
  have u5 := aB (o := .lst zs) dj
  have kJ := hz.imp fun _ _ r => r.same u5
  have S5 := S3.trans (s4.trans u5)
  generalize Qh : upd H4 pl (.lst zs) = H5 at u5 kJ S5
  have Qi : H5 pl = some (.lst zs) := by rw [<- Qh]; exact aw
  have Qj : ∀ r ∈ OC, ∃ a b : Nat, a < 7 /\ b < 7 /\ r = ((a : Int), (b : Int)) := fun r hr => by
   rw [<- HE] at hr
   obtain ⟨g1, zt, g2, zu, rfl, _⟩ := zy.mp hr
   obtain ⟨i, hi, rfl⟩ := List.mem_map.mp zt
   obtain ⟨j, hj, rfl⟩ := List.mem_map.mp zu
   have := List.mem_range.mp hi
   have := List.mem_range.mp hj
   exact ⟨i, j, by omega, by omega, rfl⟩
  refine ⟨pl, rfl, zs, ai.of Qi, fy (OC.map fZ), z0 kJ, by omega, Ol fun k hk => ?_, fun M mn mk mj l hl => ?_⟩
  ·obtain ⟨r, hr, rfl⟩ := List.mem_map.mp hk
   obtain ⟨r0, bV, rfl⟩ := List.mem_map.mp hr
   obtain ⟨a, b, ha, hb, rfl⟩ := Qj r0 bV
   unfold fZ
   dsimp only
   by_cases cM : (b : Int) < (a : Int)
   ·exact ⟨b, a, hb, ha, by rw [if_pos cM, if_neg (by omega)]⟩
   ·by_cases hba : (a : Int) < (b : Int)
    ·exact ⟨a, b, ha, hb, by rw [if_neg cM, if_pos hba]⟩
    ·exact ⟨a, a, ha, ha, by rw [if_neg cM, if_neg hba]⟩
  have k2 : ∀ mm ∈ M, [(gZ mm.1).1, (gZ mm.1).2] = mm.1 := fun mm dY => by
   obtain ⟨r, hr, e1⟩ := List.mem_map.mp ((mk mm.1).mp (List.mem_map.mpr ⟨mm, dY, rfl⟩))
   rw [<- e1]
   rfl
  have kk : fy (M.map fun mm => gZ mm.1) = M.map (·.1) := by
   unfold fy
   rw [List.map_map]
   exact List.map_congr_left fun mm dY => k2 mm dY
  refine q l _ (M.map fun mm => gZ mm.1) _ (S5.trans (aB hl)) (S5.free hl) aw ?_ (fun p2 => ?_) ?_
  ·have : (fy (M.map fun mm => gZ mm.1)).Nodup := by rw [kk]; exact mn
   exact List.Pairwise.of_map _ (fun a b h e => h (by rw [e])) this
  ·rw [Ov ag t1, HE]
   constructor
   ·intro jM
    obtain ⟨mm, dY, e2⟩ := List.mem_map.mp jM
    obtain ⟨r, hr, e1⟩ := List.mem_map.mp ((mk mm.1).mp (List.mem_map.mpr ⟨mm, dY, rfl⟩))
    obtain ⟨r0, bV, rfl⟩ := List.mem_map.mp hr
    refine ⟨r0, bV, ?_⟩
    rw [<- e2, <- e1]
    unfold gZ fZ
    refine Prod.ext ?_ ?_
    ·show (if r0.2 < r0.1 then r0.2 else r0.1) = min r0.1 r0.2
     omega
    ·show (if r0.1 < r0.2 then r0.2 else r0.1) = max r0.1 r0.2
     omega
   ·rintro ⟨r0, bV, rfl⟩
    have hk : [(fZ r0).1, (fZ r0).2] ∈ fy (OC.map fZ) := List.mem_map.mpr ⟨fZ r0, List.mem_map.mpr ⟨r0, bV, rfl⟩, rfl⟩
    obtain ⟨mm, dY, e1⟩ := List.mem_map.mp ((mk _).mpr hk)
    refine List.mem_map.mpr ⟨mm, dY, ?_⟩
    rw [e1]
    unfold gZ fZ
    refine Prod.ext ?_ ?_
    ·show (if r0.2 < r0.1 then r0.2 else r0.1) = min r0.1 r0.2
     omega
    ·show (if r0.1 < r0.2 then r0.2 else r0.1) = max r0.1 r0.2
     omega
  ·unfold gR
   rw [kk]
   have u6 := aB (o := .lst (bJ (M.map (·.1)) V.non (M.map fun mm => V.ref mm.2))) hl
   refine ak.sort ?_
   have all : ∀ mm ∈ M, aW (upd H5 l (.lst (bJ (M.map (·.1)) V.non (M.map fun mm => V.ref mm.2)))) (V.ref mm.2) (gZ mm.1) := fun mm dY => by
    obtain ⟨j, j1, j2⟩ := mj mm dY
    obtain ⟨r, hr, hpt⟩ := kJ.get j1
    have : mm.1 = [r.1, r.2] := by
     have e3 : (fy (OC.map fZ))[j]? = some [r.1, r.2] := by unfold fy; rw [List.getElem?_map, hr]; rfl
     rw [e3] at j2
     exact (Option.some.inj j2).symm
    rw [this]
    exact hpt.same u6
   have go : ∀ M' : List (List Int × Addr), (∀ mm ∈ M', mm ∈ M) -> ak (aW (upd H5 l (.lst (bJ (M.map (·.1)) V.non (M.map fun mm => V.ref mm.2))))) (M'.map fun mm => V.ref mm.2) (M'.map fun mm => gZ mm.1) := fun M' => by
    induction M' with
    | nil => intro _; exact trivial
    | cons mm M' ih => intro iH; exact ⟨all mm (iH mm (.head _)), ih fun x hx => iH x (.tail _ hx)⟩
   exact go M fun _ h => h
end
section
seal L2.PE L2.PS L2.bo L2.PA
variable {P : Program} {w : World} {K : PySem.W.Frag} {mg : Str -> Option Value} {base : Heap}
structure f6 (e t u d m f : Int) : Prop where
 he : 1 <= e /\ e <= 7
 ht : 1 <= t /\ t <= 12
 hu : 0 <= u /\ u <= 6 * 1000000000000000000000000000000000000000000000000000000000
 hd : 0 <= d /\ d <= 6 * 1000000000000000000000000000000000000000000000000000000000
 hm : 0 <= m /\ m <= e
 hf : 1 <= f /\ f <= 1000000000000000000000000000000000000000000000000000000000
noncomputable def dZ (e t u d m f : Int) : List V := [.int e, .int t, .int u, .int d, .int m, .int f]
noncomputable def Qk (K : PySem.W.Frag) : Sp := fun vs H Q _ => ∃ (a : Addr) (ns : List Int), vs = [.ref a] /\ ai K H a (ns.map V.int) /\ dP ns /\ ∀ (l : Addr) (e t u d m f : Int) (H' : Hp), aj H H' -> H l = none -> H' l = some (.lst (dZ e t u d m f)) -> f6 e t u d m f -> Q (.ref l) H'
noncomputable def Ql (w e t m : Int) : Prop := (1 <= t /\ t <= 12) /\ (1 <= e /\ e <= 7) /\ (0 <= m /\ m <= e) /\ (w = 1 ∨ w = 3 ∨ e <= 4)
noncomputable def wk (e t m : Int) : Prop := (1 <= t /\ t <= 12) /\ (1 <= e /\ e <= 7) /\ (0 <= m /\ m <= e)
noncomputable def wm (a : Addr) (H : Hp) (σ : St) (H' : Hp) : Prop := ∃ w e t m : Int, σ = [some (.ref a), some (.int w), some (.int e), some (.int t), some (.int m), none, none, none] /\ H' = H /\ Ql w e t m
noncomputable def Qm (a : Addr) (H : Hp) (σ : St) (H' : Hp) : Prop := ∃ w e t m : Int, σ = [some (.ref a), some (.int w), some (.int e), some (.int t), some (.int m), none, none, none] /\ H' = H /\ wk e t m
noncomputable def Qn (a : Addr) (H : Hp) (σ : St) (H' : Hp) : Prop := ∃ w e t m f : Int, σ = [some (.ref a), some (.int w), some (.int e), some (.int t), some (.int m), some (.int f), none, none] /\ aj H H' /\ wk e t m /\ 1 <= f /\ f <= 1000000000000000000000000000000000000000000000000000000000
noncomputable def Qo (a : Addr) (H : Hp) (σ : St) (H' : Hp) : Prop := ∃ w e t m f u : Int, σ = [some (.ref a), some (.int w), some (.int e), some (.int t), some (.int m), some (.int f), some (.int u), none] /\ aj H H' /\ wk e t m /\ (1 <= f /\ f <= 1000000000000000000000000000000000000000000000000000000000) /\ 0 <= u /\ u <= 6 * 1000000000000000000000000000000000000000000000000000000000
noncomputable def HG (a : Addr) (H : Hp) (σ : St) (H' : Hp) : Prop := ∃ w e t m f u d : Int, σ = [some (.ref a), some (.int w), some (.int e), some (.int t), some (.int m), some (.int f), some (.int u), some (.int d)] /\ aj H H' /\ wk e t m /\ (1 <= f /\ f <= 1000000000000000000000000000000000000000000000000000000000) /\ (0 <= u /\ u <= 6 * 1000000000000000000000000000000000000000000000000000000000) /\ 0 <= d /\ d <= 6 * 1000000000000000000000000000000000000000000000000000000000
theorem HH {p f : Int} (h0 : 0 <= p) (h1 : p < 7) (f1 : 1 <= f) (f2 : f <= 1000000000000000000000000000000000000000000000000000000000) : 0 <= p * f /\ p * f <= 6 * 1000000000000000000000000000000000000000000000000000000000 := by
 have a := Int.mul_le_mul (show p <= 6 by omega) f2 (by omega) (by decide)
 exact ⟨Int.mul_nonneg h0 (by omega), a⟩
theorem Qp (T : Tx K mg) : aL P w K mg base (aM P w) 3 T.jf T.vD ["_law_script"] (Qk K) := by
 refine okN T.nP b6 (fun vs H Q E h => ?_) (fun aD A outer s H vs Q E hr h => ?_)
 ·obtain ⟨a, ns, rfl, _⟩ := h
  rfl
 ·obtain ⟨a, ns, rfl, hS, hn, q⟩ := h
  refine ⟨_, (ao (aF (i := 1) b6.nd rfl (Or.inl rfl) (aG (bS T) (hr.mono (by decide)) rfl T.bL T.br.kp T.bD .nil aC (aa (pv 0) (aa ae (aa ae ah)))))
  (ao (aF (i := 2) b6.nd rfl (Or.inl rfl) (aA a8 ae (aG (bS T) (hr.mono (by decide)) rfl T.bL T.br.kp T.bD .nil aC (aa (pv 0) (aa ae (aa ae ah))))))
  (ao (aF (i := 3) b6.nd rfl (Or.inl rfl) (aA a8 ae (aG (bS T) (hr.mono (by decide)) rfl T.bL T.br.kp T.bD .nil aC (aa (pv 0) (aa ae (aa ae ah))))))
  (ao (aF (i := 4) b6.nd rfl (Or.inl rfl) (bX (o6 rfl) (by rfl) T.ju jP (aa (pv 2) (aa (aG (bS T) (hr.mono (by decide)) rfl T.bL T.br.kp T.bD .nil aC (aa (pv 0) (aa ae (aa ae ah)))) ah))))
  (ao (bc (bN cT (pv 1) ae (bp _)) (ao (aF (i := 2) b6.nd rfl (Or.inl rfl) ae)
    (ao (aF (i := 3) b6.nd rfl (Or.inl rfl) (aA a8 ae (aA gu (pv 3) ae)))
    (ax (aF (i := 4) b6.nd rfl (Or.inl rfl) (aG (bS T) (hr.mono (by decide)) rfl T.bL T.br.kp T.bD .nil aC (aa (pv 0) (aa ae (aa ae ah)))))))) bf)
  (ao (bc (bN cT (pv 1) ae (bp _)) (ao (aF (i := 2) b6.nd rfl (Or.inl rfl) (aA a8 ae (aA gu (pv 2) ae)))
    (ao (aF (i := 3) b6.nd rfl (Or.inl rfl) (aA a8 ae (aG (bS T) (hr.mono (by decide)) rfl T.bL T.br.kp T.bD .nil aC (aa (pv 0) (aa ae (aa ae ah))))))
    (ax (aF (i := 4) b6.nd rfl (Or.inl rfl) (bX (o6 rfl) (by rfl) T.ju jP (aa (pv 2) (aa (pv 4) ah))))))) bf)
  (ao (bc (bN cT (pv 1) ae (bp _)) (ao (aF (i := 2) b6.nd rfl (Or.inl rfl) (aA a8 ae (aA gu (pv 2) ae)))
    (ao (aF (i := 3) b6.nd rfl (Or.inl rfl) ae)
    (ax (aF (i := 4) b6.nd rfl (Or.inl rfl) (aG (bS T) (hr.mono (by decide)) rfl T.bL T.br.kp T.bD .nil aC (aa (pv 0) (aa ae (aa (aA a8 (pv 2) ae) ah)))))))) bf)
  (ao (bc (bN cT (pv 1) ae (bp _)) (ao (aF (i := 2) b6.nd rfl (Or.inl rfl) (aA a8 ae (pv 2)))
    (ao (aF (i := 3) b6.nd rfl (Or.inl rfl) (aA a8 ae (aG (bS T) (hr.mono (by decide)) rfl T.bL T.br.kp T.bD .nil aC (aa (pv 0) (aa ae (aa ae ah))))))
    (ax (aF (i := 4) b6.nd rfl (Or.inl rfl) (bX (o6 rfl) (by rfl) T.ju jP (aa (pv 4) (aa ae ah))))))) bf)
  (ao (aF (i := 5) b6.nd rfl (Or.inl rfl) (au az (ij (aa ae (aa ae (aa ae (aa ae (aa (aA a8 (aA oZ ae ae) ae) (aa (aA a8 ae (aG (zR T) (hr.mono (by decide)) rfl T.vC T.je.kp T.nO .nil aC (aa (pv 0) (aa ae (aa (aA oZ ae ae) ah))))) ah))))))) (aG (bS T) (hr.mono (by decide)) rfl T.bL T.br.kp T.bD .nil aC (aa (pv 0) (aa ae (aa ae ah)))) (fun _ _ => rfl)))
  (ao (aF (i := 6) b6.nd rfl (Or.inl rfl) (aA eJ (aG (bS T) (hr.mono (by decide)) rfl T.bL T.br.kp T.bD .nil aC (aa (pv 0) (aa ae (aa ae ah)))) (pv 5)))
  (ao (aF (i := 7) b6.nd rfl (Or.inl rfl) (aA eJ (aG (bS T) (hr.mono (by decide)) rfl T.bL T.br.kp T.bD .nil aC (aa (pv 0) (aa ae (aa ae ah)))) (pv 5)))
  (ao (bc (bN cT (aG (bS T) (hr.mono (by decide)) rfl T.bL T.br.kp T.bD .nil aC (aa (pv 0) (aa ae (aa ae ah)))) ae (bp _)) (ao (aF (i := 6) b6.nd rfl (Or.inl rfl) ae)
    (ax (aF (i := 7) b6.nd rfl (Or.inl rfl) ae))) bf)
  (ax (aV (ij (aa (pv 2) (aa (pv 3) (aa (pv 6) (aa (pv 7) (aa (pv 4) (aa (pv 5) ah))))))))))))))))))))), ?_⟩
  refine aO (fun σ H' => ∃ w : Int, σ = [some (.ref a), some (.int w), none, none, none, none, none, none] /\ H' = H) (fun N hN => ?_) ?_
  ·walk_at "gzn"
   refine ⟨a, ns, _, _, rfl, hS, hn, by omega, by omega, fun p p1 p2 => ?_⟩
   walk_at "gzn"
   exact hN _ _ ⟨_, rfl, rfl⟩
  rintro σ H' ⟨w, rfl, rfl⟩
  refine aO (fun σ H1 => ∃ e : Int, σ = [some (.ref a), some (.int w), some (.int e), none, none, none, none, none] /\ H1 = H' /\ 1 <= e /\ e <= 4) (fun N hN => ?_) ?_
  ·walk_at "gzn"
   refine ⟨a, ns, _, _, rfl, hS, hn, by omega, by omega, fun p p1 p2 => ?_⟩
   walk_at "gzn"
   exact hN _ _ ⟨_, rfl, rfl, by omega, by omega⟩
  rintro σ H ⟨e, rfl, rfl, e1, e2⟩
  refine aO (fun σ H1 => ∃ t : Int, σ = [some (.ref a), some (.int w), some (.int e), some (.int t), none, none, none, none] /\ H1 = H /\ 1 <= t /\ t <= 4) (fun N hN => ?_) ?_
  ·walk_at "gzn"
   refine ⟨a, ns, _, _, rfl, hS, hn, by omega, by omega, fun p p1 p2 => ?_⟩
   walk_at "gzn"
   exact hN _ _ ⟨_, rfl, rfl, by omega, by omega⟩
  rintro σ H' ⟨t, rfl, rfl, t1, t2⟩
  refine aO (wm a H') (fun N hN => ?_) ?_
  ·walk_at "gzn"
   refine ⟨a, ns, _, _, rfl, hS, hn, by omega, by omega, fun p p1 p2 => ?_⟩
   walk_at "gzn"
   refine hN _ _ ⟨_, _, _, _, rfl, rfl, by omega, by omega, ?_, .inr (.inr e2)⟩
   split <;> omega
  rintro σ H ⟨w, e, t, m, rfl, rfl, hA⟩
  refine aO (wm a H) (fun N hN => ?_) ?_
  ·obtain ⟨a1, a2, a3, a4⟩ := id hA
   walk_at "gzn"
   refine bC (fun hw => ?_) fun hw => ?_
   ·subst hw
    refine ⟨by decide, ?_⟩
    refine ⟨a, ns, _, _, rfl, hS, hn, by omega, by omega, fun p p1 p2 => ?_⟩
    walk_at "gzn"
    exact hN _ _ ⟨_, _, _, _, rfl, rfl, by omega, by omega, by omega, .inl rfl⟩
   ·exact hN _ _ ⟨_, _, _, _, rfl, rfl, hA⟩
  rintro σ H' ⟨w, e, t, m, rfl, rfl, hA⟩
  refine aO (wm a H') (fun N hN => ?_) ?_
  ·obtain ⟨a1, a2, a3, a4⟩ := id hA
   walk_at "gzn"
   refine bC (fun hw => ?_) fun hw => ?_
   ·subst hw
    refine ⟨by decide, ?_⟩
    refine ⟨a, ns, _, _, rfl, hS, hn, by omega, by omega, fun p p1 p2 => ?_⟩
    walk_at "gzn"
    refine hN _ _ ⟨_, _, _, _, rfl, rfl, by omega, by omega, ?_, .inr (.inr (by omega))⟩
    split <;> omega
   ·exact hN _ _ ⟨_, _, _, _, rfl, rfl, hA⟩
  rintro σ H ⟨w, e, t, m, rfl, rfl, hA⟩
  refine aO (wm a H) (fun N hN => ?_) ?_
  ·obtain ⟨a1, a2, a3, a4⟩ := id hA
   walk_at "gzn"
   refine bC (fun hw => ?_) fun hw => ?_
   ·subst hw
    refine ⟨by decide, ?_⟩
    refine ⟨a, ns, _, _, rfl, hS, hn, by omega, by omega, fun p p1 p2 => ?_⟩
    walk_at "gzn"
    exact hN _ _ ⟨_, _, _, _, rfl, rfl, by omega, by omega, by omega, .inr (.inl rfl)⟩
   ·exact hN _ _ ⟨_, _, _, _, rfl, rfl, hA⟩
  rintro σ H' ⟨w, e, t, m, rfl, rfl, hA⟩
  refine aO (Qm a H') (fun N hN => ?_) ?_
  ·obtain ⟨a1, a2, a3, a4⟩ := id hA
   walk_at "gzn"
   refine bC (fun hw => ?_) fun hw => ?_
   ·subst hw
    refine ⟨a, ns, _, _, rfl, hS, hn, by omega, by omega, fun p p1 p2 => ?_⟩
    walk_at "gzn"
    refine hN _ _ ⟨_, _, _, _, rfl, rfl, by omega, by omega, ?_⟩
    split <;> omega
   ·exact hN _ _ ⟨_, _, _, _, rfl, rfl, a1, a2, a3⟩
  rintro σ H ⟨w, e, t, m, rfl, rfl, hA⟩
  refine aO (Qn a H) (fun N hN => ?_) ?_
  ·walk_at "gzn"
   refine ⟨⟨by decide, by decide, by decide⟩, ⟨by decide, by decide, by decide⟩, ?_⟩
   refine ⟨a, ns, _, _, rfl, hS, hn, by omega, by omega, fun f f1 f2 => ?_⟩
   walk_at "gzn"
   refine ⟨by decide, fun l hl => ?_⟩
   refine ⟨a, ns, _, _, rfl, (aB hl).seq hS, hn, by omega, by omega, fun p p1 p2 => ?_⟩
   obtain ⟨v, hv, ev⟩ := yG (vs := [1, 1, 1, 1, 1000000007, 1 + f]) p1 p2
   refine a9 (ai.of aw) ev ?_
   walk_at "gzn"
   refine hN _ _ ⟨_, _, _, _, _, rfl, aB hl, hA, ?_⟩
   simp only [List.mem_cons, List.not_mem_nil, or_false] at hv
   omega
  rintro σ H1 ⟨w, e, t, m, f, rfl, s1, hA, f1, f2⟩
  refine aO (Qo a H) (fun N hN => ?_) ?_
  ·walk_at "gzn"
   refine ⟨a, ns, _, _, rfl, s1.seq hS, hn, by omega, by omega, fun p p1 p2 => ?_⟩
   walk_at "gzn"
   refine ⟨fk (by omega) (by omega), ?_⟩
   exact hN _ _ ⟨_, _, _, _, _, _, rfl, s1, hA, ⟨f1, f2⟩, HH p1 p2 f1 f2⟩
  rintro σ H2 ⟨w, e, t, m, f, u, rfl, s2, hA, ⟨f1, f2⟩, hu⟩
  refine aO (HG a H) (fun N hN => ?_) ?_
  ·walk_at "gzn"
   refine ⟨a, ns, _, _, rfl, s2.seq hS, hn, by omega, by omega, fun p p1 p2 => ?_⟩
   walk_at "gzn"
   refine ⟨fk (by omega) (by omega), ?_⟩
   exact hN _ _ ⟨_, _, _, _, _, _, _, rfl, s2, hA, ⟨f1, f2⟩, hu, HH p1 p2 f1 f2⟩
  rintro σ H3 ⟨w, e, t, m, f, u, d, rfl, s3, hA, ⟨f1, f2⟩, hu, hd⟩
  refine aO (HG a H) (fun N hN => ?_) ?_
  ·walk_at "gzn"
   refine ⟨a, ns, _, _, rfl, s3.seq hS, hn, by omega, by omega, fun p p1 p2 => ?_⟩
   walk_at "gzn"
   refine bC (fun hw => ?_) fun hw => ?_
   ·exact hN _ _ ⟨_, _, _, _, _, _, _, rfl, s3, hA, ⟨f1, f2⟩, by decide, by decide⟩
   ·exact hN _ _ ⟨_, _, _, _, _, _, _, rfl, s3, hA, ⟨f1, f2⟩, hu, hd⟩
  rintro σ H4 ⟨w, e, t, m, f, u, d, rfl, s4, hA, hf, hu, hd⟩
  walk_at "gzn"
  refine ⟨by decide, fun l hl => ?_⟩
  obtain ⟨a1, a2, a3⟩ := hA
  exact q l e t u d m f _ (s4.trans (aB hl)) (s4.free hl) aw ⟨a2, a1, hu, hd, a3, hf⟩
noncomputable def rj (u d : Int) (cs : List Int) : Prop := ∀ i, i + 1 < cs.length -> -d <= cs.getD (i + 1) 0 - cs.getD i 0 /\ cs.getD (i + 1) 0 - cs.getD i 0 <= u
theorem rj.snoc {u d n k : Int} {cs : List Int} (h : rj u d (cs ++ [n])) (h1 : -d <= k - n) (h2 : k - n <= u) : rj u d (cs ++ [n] ++ [k]) := by
 intro i hi
 rw [List.length_append, List.length_append, List.length_singleton, List.length_singleton] at hi
 by_cases e : i + 1 < (cs ++ [n]).length
 ·have := h i e
  simp only [List.getD_eq_getElem?_getD] at this ⊢
  rw [List.getElem?_append_left (l₁ := cs ++ [n]) e, List.getElem?_append_left (l₁ := cs ++ [n]) (by omega)]
  exact this
 ·rw [List.length_append, List.length_singleton] at e
  have ei : i = cs.length := by omega
  subst ei
  have a1 : (cs ++ [n] ++ [k])[cs.length + 1]? = some k := by simp
  have a2 : (cs ++ [n] ++ [k])[cs.length]? = some n := by simp
  simp only [List.getD_eq_getElem?_getD, a1, a2, Option.getD_some]
  exact ⟨h1, h2⟩
noncomputable def Qq (K : PySem.W.Frag) : Sp := fun vs H Q _ => ∃ (a b : Addr) (ns : List Int) (e t u d m f : Int), vs = [.ref a, .ref b] /\ ai K H a (ns.map V.int) /\ dP ns /\ ai K H b (dZ e t u d m f) /\ f6 e t u d m f /\ ∀ (l : Addr) (cs : List Int) (H' : Hp), aj H H' -> H l = none -> H' l = some (.lst (cs.map V.int)) -> cs.length = t.toNat -> rj u d cs -> Q (.ref l) H'
noncomputable def Qr (H : Hp) (a b l : Addr) (z u d : Int) (i : Nat) (σ : St) (H1 : Hp) : Prop := ∃ (cs : List Int) (n : Int) (e1 : Option V), σ = [some (.ref a), some (.ref b), some (.int z), some (.int n), some (.ref l), e1] /\ aj H H1 /\ H1 l = some (.lst ((cs ++ [n]).map V.int)) /\ cs.length = i /\ rj u d (cs ++ [n])
theorem Qs (T : Tx K mg) : aL P w K mg base (aM P w) 3 T.jg T.vF ["_law_script", "_law_shape_here"] (Qq K) := by
 refine okN T.nQ nA (fun vs H Q E h => ?_) (fun aD A outer s H vs Q E hr h => ?_)
 ·obtain ⟨a, b, ns, e, t, u, d, m, f, rfl, _⟩ := h
  rfl
 ·obtain ⟨a, b, ns, e, t, u, d, m, f, rfl, hS, hn, hb, sh, q⟩ := h
  refine ⟨_, (ao (aF (i := 2) nA.nd rfl (Or.inl rfl) (au az (ij (aa ae (aa ae (aa (aA oZ ae ae) (aa (aA eJ (aA oZ ae ae) (aA oZ ae ae)) ah))))) (aG (bS T) (hr.mono (by decide)) rfl T.bL T.br.kp T.bD .nil aC (aa (pv 0) (aa ae (aa ae ah)))) (fun _ _ => rfl)))
  (ao (aF (i := 3) nA.nd rfl (Or.inl rfl) (aA ff (aG (zR T) (hr.mono (by decide)) rfl T.vC T.je.kp T.nO .nil aC (aa (pv 0) (aa ae (aa (aA a8 (aA eJ ae (pv 2)) ae) ah)))) (pv 2)))
  (ao (aF (i := 4) nA.nd rfl (Or.inl rfl) (ij (aa (pv 3) ah)))
  (ao (c9 PassesOwn.never rfl (jD rfl T.gW (aa (aA ff (au az (pv 1) ae (fun _ _ => rfl)) ae) ah)) (bz (i := 5) nA.nd rfl (Or.inl rfl)) (ao (aF (i := 3) nA.nd rfl (Or.inl rfl) (aA ff (aA a8 (pv 3) (aG (zR T) (hr.mono (by decide)) rfl T.vC T.je.kp T.nO .nil aC (aa (pv 0) (aa (aA a8 ae (pv 5)) (aa (aA a8 (aA a8 (au az (pv 1) ae (fun _ _ => rfl)) (au az (pv 1) ae (fun _ _ => rfl))) ae) ah))))) (au az (pv 1) ae (fun _ _ => rfl))))
    (ax (dE (DV PySem.F.plainAttrs_list PySem.F.slot_list_append PySem.F.type_list_append DW (pv 4) (aa (pv 3) ah))))))
  (ax (aV (pv 4))))))), ?_⟩
  obtain ⟨⟨e1, e2⟩, ⟨t1, t2⟩, ⟨u1, u2⟩, ⟨d1, d2⟩, -, -⟩ := id sh
  walk_at "gzn"
  refine ⟨⟨by decide, by decide, by decide⟩, ⟨by decide, by decide, by decide⟩, ⟨by decide, by decide, by decide⟩, Ea (by decide) (by decide), by decide, fun r bV => ?_⟩
  have P1 : upd H r (.lst [V.int 9, V.int 1000, V.int 1000000000000000000, V.int 1000000000000000000000000000000000000000000000000000000000000000000000000000000000000000000000000000000000000000000000000]) r = some (.lst (([9, 1000, 1000000000000000000, 1000000000000000000000000000000000000000000000000000000000000000000000000000000000000000000000000000000000000000000000000] : List Int).map V.int)) := aw
  have s1 := aB (o := .lst [V.int 9, V.int 1000, V.int 1000000000000000000, V.int 1000000000000000000000000000000000000000000000000000000000000000000000000000000000000000000000000000000000000000000000000]) bV
  refine ⟨a, ns, _, _, rfl, s1.seq hS, hn, by decide, by decide, fun k h1 h2 => ?_⟩
  obtain ⟨z, hz, ez⟩ := yG (vs := ([9, 1000, 1000000000000000000, 1000000000000000000000000000000000000000000000000000000000000000000000000000000000000000000000000000000000000000000000000] : List Int)) h1 h2
  have hz : 0 <= z /\ z <= 1000000000000000000000000000000000000000000000000000000000000000000000000000000000000000000000000000000000000000000000000 := by
   simp only [List.mem_cons, List.not_mem_nil, or_false] at hz
   omega
  refine a9 (ai.of P1) ez ?_
  walk_at "gzn"
  generalize upd H r (.lst [V.int 9, V.int 1000, V.int 1000000000000000000, V.int 1000000000000000000000000000000000000000000000000000000000000000000000000000000000000000000000000000000000000000000000000]) = H1 at s1 ⊢
  refine ⟨fk (by decide) (by omega), ?_⟩
  refine ⟨a, ns, _, _, rfl, s1.seq hS, hn, by decide, by omega, fun n0 _ _ => ?_⟩
  walk_at "gzn"
  refine ⟨by decide, fun l hl => ?_⟩
  have gY : H l = none := s1.free hl
  have s2 := s1.trans (aB (o := .lst [V.int (n0 - z)]) hl)
  refine a9 (s2.seq hb) (v := .int t) rfl ?_
  walk_at "gzn"
  refine ⟨by omega, by omega, tf (Qr H a b l z u d) ⟨[], _, _, rfl, s2, aw, rfl, fun i hi => ?_⟩ ?_ ?_⟩
  ·simp at hi
  ·rintro i σ H3 hi ⟨cs, n, e1, rfl, s3, L3, hlen, dF⟩
   walk_at "gzn"
   refine a9 (s3.seq hb) (v := .int u) rfl (a9 (s3.seq hb) (v := .int d) rfl ?_)
   walk_at "gzn"
   refine ⟨a, ns, _, _, rfl, s3.seq hS, hn, by omega, by omega, fun k k1 k2 => ?_⟩
   walk_at "gzn"
   refine a9 (s3.seq hb) (v := .int d) rfl ?_
   walk_at "gzn"
   refine ⟨.inl ⟨rfl, _, ai.of L3⟩, _, L3, ?_, cs ++ [n], _, _, rfl, jR gY s3, ?_, ?_, ?_⟩
   ·rw [List.length_map, List.length_append, List.length_singleton]
    exact Nat.lt_of_le_of_lt (by omega : _ <= 13) (by decide)
   ·simp only [aw, List.map_append, List.map_cons, List.map_nil]
   ·rw [List.length_append, List.length_singleton, hlen]
   ·exact dF.snoc (by omega) (by omega)
  ·rintro σ H3 ⟨cs, n, e1, rfl, s3, L3, hlen, dF⟩
   walk_at "gzn"
   exact q l _ H3 s3 gY L3 (by rw [List.length_append, List.length_singleton]; omega) dF
noncomputable def HI (K : PySem.W.Frag) : Sp := fun vs H Q _ => ∃ (a : Addr) (ns : List Int) (k f n : Int) (b : Bool), vs = [.ref a, .int k, .int f, .int n, .bl b] /\ ai K H a (ns.map V.int) /\ dP ns /\ (-900000 <= k /\ k <= 900000) /\ (1 <= f /\ f <= 1000000000000000000000000000000000000000000000000000000000) /\ ∀ (p : Addr) (lo hi : En) (H' : Hp), aj H H' -> H p = none -> H' p = some (.tup [ev lo, ev hi]) -> bg lo hi = false -> (b = false -> hold lo hi n = true) -> Q (.ref p) H'
noncomputable def Qt (a : Addr) (H : Hp) (k f n : Int) (b : Bool) (σ : St) (H' : Hp) : Prop := ∃ y lo hi : Int, σ = [some (.ref a), some (.int k), some (.int f), some (.int n), some (.bl b), some (.int y), some (.int lo), some (.int hi), none] /\ aj H H' /\ (1 <= y /\ y <= 1000000000000000000000000000000000000000000000000000000000) /\ lo <= hi /\ (b = false -> lo <= n /\ n <= hi)
noncomputable def Qu (a : Addr) (H : Hp) (k f n : Int) (b : Bool) (σ : St) (H' : Hp) : Prop := ∃ y lo hi : Int, σ = [some (.ref a), some (.int k), some (.int f), some (.int n), some (.bl b), some (.int y), some (.int lo), some (.int hi), none] /\ aj H H' /\ lo <= hi /\ (b = false -> lo <= n /\ n <= hi)
noncomputable def z3 (a : Addr) (H : Hp) (k f n : Int) (b : Bool) (σ : St) (H' : Hp) : Prop := ∃ (y g lo : Int) (l h : En) (hi : Int), σ = [some (.ref a), some (.int k), some (.int f), some (.int n), some (.bl b), some (.int y), some (ev l), some (ev h), some (.int g)] /\ aj H H' /\ (l = none ∨ l = some lo) /\ (h = none ∨ h = some hi) /\ lo <= hi /\ (b = false -> lo <= n /\ n <= hi)
theorem HJ {p y : Int} (h0 : 0 <= p) (y0 : 0 <= y) : 0 <= p * y := Int.mul_nonneg h0 y0
theorem HK (T : Tx K mg) : aL P w K mg base (aM P w) 2 T.jh T.vH ["_law_script", "_law_k", "_law_far", "_law_number", "_law_false"] (HI K) := by
 refine okN T.kB fV (fun vs H Q E h => ?_) (fun aD A outer s H vs Q E hr h => ?_)
 ·obtain ⟨a, ns, k, f, n, b, rfl, _⟩ := h
  rfl
 ·obtain ⟨a, ns, k, f, n, b, rfl, hS, hn, hk, hf, q⟩ := h
  refine ⟨_, (ao (aF (i := 5) fV.nd rfl (Or.inl rfl) (au az (ij (aa ae (aa (pv 2) ah))) (aG (bS T) (hr.mono (by decide)) rfl T.bL T.br.kp T.bD .nil aC (aa (pv 0) (aa (pv 1) (aa ae ah)))) (fun _ _ => rfl)))
  (ao (aF (i := 6) fV.nd rfl (Or.inl rfl) (aA ff (pv 3) (aA eJ (aG (bS T) (hr.mono (by decide)) rfl T.bL T.br.kp T.bD .nil aC (aa (pv 0) (aa (aA a8 (pv 1) ae) (aa ae ah)))) (pv 5))))
  (ao (aF (i := 7) fV.nd rfl (Or.inl rfl) (aA a8 (pv 3) (aA eJ (aG (bS T) (hr.mono (by decide)) rfl T.bL T.br.kp T.bD .nil aC (aa (pv 0) (aa (aA a8 (pv 1) ae) (aa ae ah)))) (pv 5))))
  (ao (bc (ed (pv 4)) (ao (aF (i := 5) fV.nd rfl (Or.inl rfl) (aA eJ (aA ff (aG (bS T) (hr.mono (by decide)) rfl T.bL T.br.kp T.bD .nil aC (aa (pv 0) (aa (aA a8 (pv 1) ae) (aa ae ah)))) ae) (pv 5)))
    (ao (aF (i := 6) fV.nd rfl (Or.inl rfl) (aA a8 (pv 6) (pv 5)))
    (ax (aF (i := 7) fV.nd rfl (Or.inl rfl) (aA a8 (pv 7) (pv 5)))))) bf)
  (ao (aF (i := 8) fV.nd rfl (Or.inl rfl) (aG (bS T) (hr.mono (by decide)) rfl T.bL T.br.kp T.bD .nil aC (aa (pv 0) (aa (aA a8 (pv 1) ae) (aa ae ah)))))
  (ao (bc (PW.pt (ee (bN cT (pv 8) ae (bp _)) (gf (bN cT (pv 8) ae (bp _))))) (ax (aF (i := 6) fV.nd rfl (Or.inl rfl) eX)) bf)
  (ao (bc (PW.pt (ee (bN cT (pv 8) ae (bp _)) (gf (bN cT (pv 8) ae (bp _))))) (ax (aF (i := 7) fV.nd rfl (Or.inl rfl) eX)) bf)
  (ax (aV (bH (aa (pv 6) (aa (pv 7) ah)))))))))))), ?_⟩
  refine aO (fun σ H' => ∃ y : Int, σ = [some (.ref a), some (.int k), some (.int f), some (.int n), some (.bl b), some (.int y), none, none, none] /\ aj H H' /\ 1 <= y /\ y <= 1000000000000000000000000000000000000000000000000000000000) (fun N hN => ?_) ?_
  ·walk_at "gzn"
   refine ⟨by decide, fun l hl => ?_⟩
   refine ⟨a, ns, _, _, rfl, (aB hl).seq hS, hn, by omega, by omega, fun p p1 p2 => ?_⟩
   obtain ⟨v, hv, ev⟩ := yG (vs := [1, f]) p1 p2
   refine a9 (ai.of aw) ev ?_
   walk_at "gzn"
   refine hN _ _ ⟨_, rfl, aB hl, ?_⟩
   simp only [List.mem_cons, List.not_mem_nil, or_false] at hv
   omega
  rintro σ H1 ⟨y, rfl, s1, y1, y2⟩
  refine aO (fun σ H' => ∃ lo : Int, σ = [some (.ref a), some (.int k), some (.int f), some (.int n), some (.bl b), some (.int y), some (.int lo), none, none] /\ H' = H1 /\ lo <= n) (fun N hN => ?_) ?_
  ·walk_at "gzn"
   refine ⟨a, ns, _, _, rfl, s1.seq hS, hn, by omega, by omega, fun p p1 p2 => ?_⟩
   walk_at "gzn"
   have := HJ p1 (show 0 <= y by omega)
   exact ⟨fk (by omega) (by omega), hN _ _ ⟨_, rfl, rfl, by omega⟩⟩
  rintro σ H2 ⟨lo, rfl, rfl, l1⟩
  refine aO (Qt a H k f n b) (fun N hN => ?_) ?_
  ·walk_at "gzn"
   refine ⟨a, ns, _, _, rfl, s1.seq hS, hn, by omega, by omega, fun p p1 p2 => ?_⟩
   walk_at "gzn"
   have := HJ p1 (show 0 <= y by omega)
   exact ⟨fk (by omega) (by omega), hN _ _ ⟨_, _, _, rfl, s1, ⟨y1, y2⟩, by omega, fun _ => by omega⟩⟩
  rintro σ H3 ⟨y, lo, hi, rfl, s3, hy, h1, h2⟩
  refine aO (Qu a H k f n b) (fun N hN => ?_) ?_
  ·cases b with
   | true =>
    walk_at "gzn"
    refine ⟨a, ns, _, _, rfl, s3.seq hS, hn, by omega, by omega, fun p p1 p2 => ?_⟩
    walk_at "gzn"
    exact ⟨fk (by omega) (by omega), hN _ _ ⟨_, _, _, rfl, s3, by omega, fun z => nomatch z⟩⟩
   | false =>
    walk_at "gzn"
    exact hN _ _ ⟨_, _, _, rfl, s3, h1, h2⟩
  rintro σ H4 ⟨y, lo, hi, rfl, s4, h1, h2⟩
  refine aO (z3 a H k f n b) (fun N hN => ?_) ?_
  ·walk_at "gzn"
   refine ⟨a, ns, _, _, rfl, s4.seq hS, hn, by omega, by omega, fun p p1 p2 => ?_⟩
   walk_at "gzn"
   exact hN _ _ ⟨_, _, lo, some lo, some hi, hi, rfl, s4, .inr rfl, .inr rfl, h1, h2⟩
  rintro σ H5 ⟨y, g, lo, l, h, hi, rfl, s5, hl, hh, h1, h2⟩
  refine aO (z3 a H k f n b) (fun N hN => ?_) ?_
  ·walk_at "gzn"
   have none_ := hN _ _ ⟨y, g, lo, none, h, hi, rfl, s5, .inl rfl, hh, h1, h2⟩
   have z4 := hN _ _ ⟨y, g, lo, l, h, hi, rfl, s5, hl, hh, h1, h2⟩
   exact bC (fun _ => none_) fun _ => bC (fun _ => none_) fun _ => z4
  rintro σ H6 ⟨y, g, lo, l, h, hi, rfl, s6, hl, hh, h1, h2⟩
  refine aO (z3 a H k f n b) (fun N hN => ?_) ?_
  ·walk_at "gzn"
   have none_ := hN _ _ ⟨y, g, lo, l, none, hi, rfl, s6, hl, .inl rfl, h1, h2⟩
   have z4 := hN _ _ ⟨y, g, lo, l, h, hi, rfl, s6, hl, hh, h1, h2⟩
   exact bC (fun _ => none_) fun _ => bC (fun _ => none_) fun _ => z4
  rintro σ H7 ⟨y, g, lo, l, h, hi, rfl, s7, hl, hh, h1, h2⟩
  walk_at "gzn"
  refine ⟨bQ, fun p hp => q p l h _ (s7.trans (aB hp)) (s7.free hp) aw ?_ fun hb => LG.mpr ⟨?_, ?_⟩⟩
  ·rcases hl with rfl | rfl <;> rcases hh with rfl | rfl <;> simp [bg] <;> omega
  ·intro x hx
   rcases hl with rfl | rfl <;> cases hx
   exact (h2 hb).1
  ·intro x hx
   rcases hh with rfl | rfl <;> cases hx
   exact (h2 hb).2
end
section
seal L2.PE L2.PS L2.bo L2.PA
variable {P : Program} {w : World} {K : PySem.W.Frag} {mg : Str -> Option Value} {base : Heap}
theorem Qv {tb : Tb} {s : P2} {w : S2} {r : P2 × S2} (h : r ∈ cu tb s w) : r ∈ tb ∨ r.2 = w := by
 unfold cu at h
 split at h
 ·obtain ⟨x, hx, rfl⟩ := List.mem_map.mp h
  by_cases e : x.1 = s
  ·rw [if_pos e]; exact .inr rfl
  ·rw [if_neg e]; exact .inl hx
 ·rcases List.mem_append.mp h with z | z
  ·exact .inl z
  ·rw [List.mem_singleton.mp z]; exact .inr rfl
noncomputable def Qw (K : PySem.W.Frag) : Sp := fun vs H Q _ => ∃ (a b c : Addr) (ns cs : List Int) (e t u d m f : Int), vs = [.ref a, .ref b, .ref c] /\ ai K H a (ns.map V.int) /\ dP ns /\ ai K H b (dZ e t u d m f) /\ f6 e t u d m f /\ ai K H c (cs.map V.int) /\ cs.length = t.toNat /\ ∀ (q : Addr) (tb : Tb) (H' : Hp), aj H H' -> H q = none -> TabAt H' q tb -> bR e t tb -> tb.length <= 24 -> (∀ r ∈ tb, bg r.2.1 r.2.2 = false) -> Q (.ref q) H'
noncomputable def HL (H : Hp) (e t : Int) (q : Addr) (H1 : Hp) : Prop := ∃ tb, aj H H1 /\ H q = none /\ TabAt H1 q tb /\ bR e t tb /\ tb.length <= 24 /\ ∀ r ∈ tb, bg r.2.1 r.2.2 = false
noncomputable def z5 (σ0 : Option V -> Option V -> Option V -> Option V -> St) (H : Hp) (e t : Int) (q : Addr) (_ : Nat) (σ : St) (H1 : Hp) : Prop := ∃ e1 e2 e3 e4, σ = σ0 e1 e2 e3 e4 /\ HL H e t q H1
theorem Qx (T : Tx K mg) : aL P w K mg base (aM P w) 3 T.ji T.vI ["_law_script", "_law_shape_here", "_law_course_here"] (Qw K) := by
 refine okN T.nR fW (fun vs H Q E h => ?_) (fun aD A outer s H vs Q E hr h => ?_)
 ·obtain ⟨a, b, c, ns, cs, e, t, u, d, m, f, rfl, _⟩ := h
  rfl
 ·obtain ⟨a, b, c, ns, cs, e, t, u, d, m, f, rfl, hS, hn, hb, sh, hc, dq, q⟩ := h
  refine ⟨_, (ao (aF (i := 3) fW.nd rfl (Or.inl rfl) yQ)
  (ao (aF (i := 4) fW.nd rfl (Or.inl rfl) ae)
  (ao (aF (i := 5) fW.nd rfl (Or.inl rfl) ae)
  (ao (bc (bN ig (aA eJ (au az (pv 1) ae (fun _ _ => rfl)) (au az (pv 1) ae (fun _ _ => rfl))) ae (bp _)) (ao (aF (i := 4) fW.nd rfl (Or.inl rfl) ae)
    (ax (aF (i := 5) fW.nd rfl (Or.inl rfl) ae))) bf)
  (ao (c9 PassesOwn.never rfl (jD rfl T.gW (aa (au az (pv 1) ae (fun _ _ => rfl)) ah)) (bz (i := 6) fW.nd rfl (Or.inl rfl)) (ao (aF (i := 7) fW.nd rfl (Or.inl rfl) (ly cT (aG (bS T) (hr.mono (by decide)) rfl T.bL T.br.kp T.bD .nil aC (aa (pv 0) (aa (aA a8 ae (pv 6)) (aa ae ah)))) ae (bp _)))
    (ax (c9 PassesOwn.never rfl (jD rfl T.gW (aa (au az (pv 1) ae (fun _ _ => rfl)) ah)) (bz (i := 8) fW.nd rfl (Or.inl rfl)) (ao (aF (i := 9) fW.nd rfl (Or.inl rfl) (aA a8 ae (aA eJ ae (aA a8 (aA eJ (pv 6) (au az (pv 1) ae (fun _ _ => rfl))) (pv 8)))))
      (ax (bc (PW.pt (oH (bN lx (bX Mu (by rfl) T.gU ik (aa (pv 3) ah)) (pv 5) (bp _)) (rV (bN ig (aG (bS T) (hr.mono (by decide)) rfl T.bL T.br.kp T.bD .nil aC (aa (pv 0) (aa (pv 9) (aa (pv 4) ah)))) (aA ff (pv 4) ae) (bp _))))) (ax (sx (cL hr) (pv 3) (bH (aa (pv 6) (aa (pv 8) ah))) (aG (HK T) (hr.mono (by decide)) rfl T.zK T.kB.kp T.qS .nil aC (aa (pv 0) (aa (aA a8 (pv 9) ae) (aa (au az (pv 1) ae (fun _ _ => rfl)) (aa (au az (pv 2) (pv 8) (fun _ _ => rfl)) (aa (pv 7) ah)))))) rfl)) bf)))))))
  (ax (aV (pv 3)))))))), ?_⟩
  obtain ⟨⟨e1, e2⟩, ⟨t1, t2⟩, -, -, -, hf⟩ := id sh
  refine aO (fun σ H1 => ∃ w, σ = [some (.ref a), some (.ref b), some (.ref c), some (.ref w), none, none, none, none, none, none] /\ HL H e t w H1) (fun N hN => ?_) ?_
  ·walk_at "gzn"
   exact fun w kO => hN _ _ ⟨w, rfl, [], aB kO, kO, ⟨[], aw, trivial⟩, bR.nil, Nat.zero_le _, fun _ h => (nomatch h)⟩
  rintro σ H1 ⟨w, rfl, hw⟩
  obtain ⟨_, s1, _⟩ := id hw
  refine aO (fun σ H2 => σ = [some (.ref a), some (.ref b), some (.ref c), some (.ref w), some (.int 4), none, none, none, none, none] /\ H2 = H1) (fun N hN => ?_) ?_
  ·walk_at "gzn"
   exact hN _ _ ⟨rfl, rfl⟩
  rintro σ H2 ⟨rfl, rfl⟩
  refine aO (fun σ H3 => σ = [some (.ref a), some (.ref b), some (.ref c), some (.ref w), some (.int 4), some (.int 24), none, none, none, none] /\ H3 = H2) (fun N hN => ?_) ?_
  ·walk_at "gzn"
   exact hN _ _ ⟨rfl, rfl⟩
  rintro σ H3 ⟨rfl, rfl⟩
  refine aO (fun σ H4 => ∃ dn lm : Int, σ = [some (.ref a), some (.ref b), some (.ref c), some (.ref w), some (.int dn), some (.int lm), none, none, none, none] /\ H4 = H3 /\ (dn = 4 ∨ dn = 16) /\ 0 <= lm /\ lm <= 24) (fun N hN => ?_) ?_
  ·walk_at "gzn"
   refine a9 (s1.seq hb) (v := .int e) rfl (a9 (s1.seq hb) (v := .int t) rfl ?_)
   walk_at "gzn"
   refine ⟨fk (by omega) (by omega), bC (fun _ => hN _ _ ⟨16, 16, rfl, rfl, .inr rfl, by decide, by decide⟩) fun _ => hN _ _ ⟨4, 24, rfl, rfl, .inl rfl, by decide, by decide⟩⟩
  rintro σ H4 ⟨dn, lm, rfl, rfl, hdn, hlm⟩
  refine aO (z5 (fun e1 e2 e3 e4 => [some (.ref a), some (.ref b), some (.ref c), some (.ref w), some (.int dn), some (.int lm), e1, e2, e3, e4]) H e t w 0) (fun N hN => ?_) ?_
  ·walk_at "gzn"
   refine a9 (s1.seq hb) (v := .int e) rfl ?_
   walk_at "gzn"
   refine ⟨by omega, by omega, tf (z5 (fun e1 e2 e3 e4 => [some (.ref a), some (.ref b), some (.ref c), some (.ref w), some (.int dn), some (.int lm), e1, e2, e3, e4]) H e t w) ⟨_, _, _, _, rfl, hw⟩ ?_ (fun σ H' h => hN _ _ h)⟩
   rintro i σ H5 hi ⟨e1, e2, e3, e4, rfl, HM⟩
   obtain ⟨_, s5, _⟩ := id HM
   walk_at "gzn"
   refine ⟨a, ns, _, _, rfl, s5.seq hS, hn, by omega, by omega, fun p p1 p2 => ?_⟩
   walk_at "gzn"
   refine a9 (s5.seq hb) (v := .int t) rfl ?_
   walk_at "gzn"
   refine ⟨by omega, by omega, tf (z5 (fun e1 e2 e3 e4 => [some (.ref a), some (.ref b), some (.ref c), some (.ref w), some (.int dn), some (.int lm), some (.int (0 + (i : Int))), some (.bl (decide (p = 1))), e3, e4]) H e t w) ⟨none, none, _, _, rfl, HM⟩ ?_ ?_⟩
   ·rintro j σ H6 hj ⟨_, _, e3, e4, rfl, rk⟩
    obtain ⟨tb, s6, kO, ⟨kvs, hk, hT⟩, ag, rn, d6⟩ := id rk
    have bi : (i : Int) < e := by omega
    have bj : (j : Int) < t := by omega
    have tl := hT.len
    have bm : 0 <= (0 + (i : Int)) * t /\ (0 + (i : Int)) * t <= 6 * 12 := ⟨Int.mul_nonneg (by omega) (by omega), Int.mul_le_mul (by omega) t2 (by omega) (by decide)⟩
    walk_at "gzn"
    refine a9 (s6.seq hb) (v := .int t) rfl ⟨_, rfl, fk (by omega) (by omega), fk (by decide) (by omega), kvs, hk, bC (fun aR => ?_) fun _ => ⟨none, none, _, _, rfl, rk⟩⟩
    refine ⟨a, ns, _, _, rfl, s6.seq hS, hn, by omega, by omega, fun r r1 r2 => ⟨_, rfl, bC (fun _ => ?_) fun _ => ⟨none, none, _, _, rfl, rk⟩⟩⟩
    refine a9 (s6.seq hb) (v := .int f) rfl (a9 (s6.seq hc) (int_at (by omega) (by omega)) ?_)
    refine ⟨a, ns, _, _, _, _, rfl, s6.seq hS, hn, by omega, hf, fun wp lo hi H7 s7 _ Qy oh _ => ⟨bQ, fun k kP => ?_⟩⟩
    have u := aB (o := .tup [.int (0 + (i : Int)), .int (0 + (j : Int))]) kP
    have HN := (s7.trans u) _ _ hk
    refine ⟨_, eI.t (k := aH (0 + (i : Int)) (0 + (j : Int))) HN aw (Nat.lt_of_le_of_lt (by omega : kvs.length <= 24) (by decide)), none, none, _, _, rfl, cu tb (0 + (i : Int), 0 + (j : Int)) (lo, hi), jR kO (s6.trans (s7.trans u)), kO, ⟨_, aw, ?_⟩, ag.put ⟨⟨by show 0 <= 0 + (i : Int); omega, by show 0 + (i : Int) < e; omega⟩, by show 0 <= 0 + (j : Int); omega, by show 0 + (j : Int) < t; omega⟩, ?_, fun r hr => ?_⟩
    ·have F : Fr _ (upd _ w (.dT (putK kvs (aH (0 + (i : Int)) (0 + (j : Int))) (.ref wp)))) := yR HN
     exact aK.put (s := (0 + (i : Int), 0 + (j : Int))) (w := (lo, hi)) (hT.imp fun v a b z => (aQ.same z (s7.trans u)).fr F) (aQ.fr ⟨wp, rfl, u _ _ Qy⟩ F)
    ·have := Fz tb (0 + (i : Int), 0 + (j : Int)) (lo, hi)
     omega
    ·rcases Qv hr with z | z
     ·exact d6 r z
     ·rw [z]; exact oh
   ·rintro σ H6 ⟨_, _, e3, e4, rfl, rk⟩
    exact ⟨_, _, _, _, rfl, rk⟩
  rintro σ H5 ⟨e1, e2, e3, e4, rfl, tb, s5, kO, hT, ag, rn, d6⟩
  walk_at "gzn"
  exact q w tb H5 s5 kO hT ag rn d6
end
section
seal L2.PE L2.PS L2.bo L2.PA
variable {P : Program} {w : World} {K : PySem.W.Frag} {mg : Str -> Option Value} {base : Heap}
theorem ak.rev {α : Type} {R : V -> α -> Prop} : ∀ {xs : List V} {as : List α}, ak R xs as -> ak R xs.reverse as.reverse
 | [], [], _ => trivial
 | x :: xs, a :: as, h => by rw [List.reverse_cons, List.reverse_cons]; exact (ak.rev h.2).app ⟨h.1, trivial⟩
 | [], _ :: _, h => h.elim
 | _ :: _, [], h => h.elim
theorem Qz {tb : Tb} {s : P2} {w : S2} (h : s ∉ tb.map (·.1)) : cu tb s w = tb ++ [(s, w)] := by
 unfold cu
 rw [if_neg]
 intro z
 obtain ⟨r, hr, e⟩ := List.any_eq_true.mp z
 exact h (List.mem_map.mpr ⟨r, hr, by simpa using e⟩)
theorem QA {α β : Type} {f : α -> β} {l : List α} {i : Nat} {a : α} (h : (l.map f).Nodup) (ha : l[i]? = some a) : f a ∉ (l.take i).map f := by
 have hi := (List.getElem?_eq_some_iff.mp ha).1
 have e : l = l.take i ++ a :: l.drop (i + 1) := by
  have := List.take_append_drop i l
  rw [List.drop_eq_getElem_cons hi] at this
  rw [List.getElem?_eq_getElem hi] at ha
  cases ha
  exact this.symm
 intro hm
 have h2 : ((l.take i).map f ++ f a :: (l.drop (i + 1)).map f).Nodup := by
  rw [<- List.map_cons, <- List.map_append, <- e]
  exact h
 exact (List.nodup_append.mp h2).2.2 _ hm _ (.head _) rfl
noncomputable def QB (B : Addr) (H3 : Hp) (a b w x l p : Addr) (e t u d m : Int) (rs : Tb) (i : Nat) (σ : St) (H4 : Hp) : Prop := (∃ e1 e2, σ = [some (.ref a), some (.ref b), some (.ref w), some (.ref x), some (.ref l), e1, e2]) /\ cY [p] H3 H4 /\ cR B H4 x e t u d m p (rs.take i)
noncomputable def QC (K : PySem.W.Frag) (B : Addr) : Sp := fun vs H Q _ => ∃ (a b q : Addr) (ns : List Int) (e t u d m f : Int) (tb : Tb), vs = [.ref a, .ref b, .ref q] /\ ai K H a (ns.map V.int) /\ dP ns /\ ai K H b (dZ e t u d m f) /\ f6 e t u d m f /\ TabAt H q tb /\ bR e t tb /\ tb.length <= 30 /\ (∀ r ∈ tb, bg r.2.1 r.2.2 = false) /\ ∀ (x p : Addr) (rs : Tb) (H' : Hp), aj H H' -> H x = none -> H p = none -> cR B H' x e t u d m p rs -> (rs = tb ∨ rs = tb.reverse) -> Q (.ref x) H'
theorem QD (T : Tx K mg) : aL P w K mg base (aM P w) 4 T.jk T.vK ["_law_script", "_law_shape_here", "_law_told_here"] (QC K T.aE) := by
 refine okN T.nT qD (fun vs H Q E h => ?_) (fun aD A outer s H vs Q E hr h => ?_)
 ·obtain ⟨a, b, q, ns, e, t, u, d, m, f, tb, rfl, _⟩ := h
  rfl
 ·obtain ⟨a, b, w, ns, e, t, u, d, m, f, tb, rfl, hS, hn, hb, sh, hT, ag, HP, d6, q⟩ := h
  refine ⟨_, (ao (aF (i := 3) qD.nd rfl (Or.inl rfl) (Ka T.n3 (O5 T) (hr.mono (by decide)) rfl T.Hh T.vh .nil aC (aa (au az (pv 1) ae (fun _ _ => rfl)) (aa (au az (pv 1) ae (fun _ _ => rfl)) (aa (au az (pv 1) ae (fun _ _ => rfl)) (aa (au az (pv 1) ae (fun _ _ => rfl)) (aa (au az (pv 1) ae (fun _ _ => rfl)) ah)))))))
  (ao (aF (i := 4) qD.nd rfl (Or.inl rfl) (xR (yM rfl) (by rfl) T.qY sH (aa (pv 2) ah)))
  (ao (bc (bN cT (aG (bS T) (hr.mono (by decide)) rfl T.bL T.br.kp T.bD .nil aC (aa (pv 0) (aa ae (aa ae ah)))) ae (bp _)) (ax (dE (DU PySem.F.plainAttrs_list PySem.F.slot_list_reverse PySem.F.type_list_reverse Kn (pv 4)))) bf)
  (ao (c9 PassesOwn.never rfl (fb (pv 4)) (jC rfl (c8 (bz (i := 5) qD.nd rfl (Or.inl rfl)) (c8 (bz (i := 6) qD.nd rfl (Or.inl rfl)) jB))) (ax (dE (fK (pv 3) T.bw T.zP (Ht T) (hr.mono (by decide)) T.qM .nil aC (aa (pv 5) (aa (pv 6) (aa (au az (jO (cL hr) (pv 2) (bH (aa (pv 5) (aa (pv 6) ah))) (fun _ _ => rfl)) ae (fun _ _ => rfl)) (aa (au az (jO (cL hr) (pv 2) (bH (aa (pv 5) (aa (pv 6) ah))) (fun _ _ => rfl)) ae (fun _ _ => rfl)) ah))))))))
  (ax (aV (pv 3))))))), ?_⟩
  obtain ⟨⟨e1, e2⟩, ⟨t1, t2⟩, ⟨u1, _⟩, ⟨d1, _⟩, ⟨m1, m2⟩, hf⟩ := id sh
  refine aO (fun σ H1 => ∃ x p, σ = [some (.ref a), some (.ref b), some (.ref w), some (.ref x), none, none, none] /\ aj H H1 /\ H x = none /\ H p = none /\ cR T.aE H1 x e t u d m p []) (fun N hN => ?_) ?_
  ·walk_at "gzn"
   refine a9 hb (v := .int e) rfl (a9 hb (v := .int t) rfl (a9 hb (v := .int u) rfl (a9 hb (v := .int d) rfl (a9 hb (v := .int m) rfl fun x dx hx QE cE => ?_))))
   have QF : dW e t u d m := ⟨⟨e1, e2⟩, ⟨t1, t2⟩, u1, d1, m1, m2⟩
   refine ⟨x, dx, e, t, u, d, m, rfl, aw, fun z => absurd QF z, fun _ p H1 hp s1 X1 P1 => ⟨rfl, ?_⟩⟩
   have M := Me (C := T.aE) (fs := []) hx QE cE
   have S1 : aj H H1 := fun b o e => s1 b o (fun z => by rw [z, hx] at e; cases e) (M _ _ e)
   exact hN _ _ ⟨x, p, rfl, S1, hx, M.free hp, ⟨⟨_, X1⟩, [], P1, trivial⟩⟩
  rintro σ H1 ⟨x, p, rfl, s1, fx, fp, hB⟩
  obtain ⟨kvs, hk, hA⟩ := hT
  refine aO (fun σ H2 => ∃ l ys, σ = [some (.ref a), some (.ref b), some (.ref w), some (.ref x), some (.ref l), none, none] /\ aj H1 H2 /\ H1 l = none /\ H2 l = some (.lst ys) /\ cc H2 ys (tb.map (·.1))) (fun N hN => ?_) ?_
  ·walk_at "gzn"
   refine ⟨kvs, s1 _ _ hk, fun l ys hl kQ => hN _ _ ⟨l, ys, rfl, aB hl, hl, aw, ?_⟩⟩
   exact ((aK.imp (fun v a b z => aQ.same z s1) hA).ql kQ).imp fun _ _ r => r.same (aB hl)
  rintro σ H2 ⟨l, ys, rfl, s2, fl, hl, hY⟩
  refine aO (fun σ H3 => ∃ (ys : List V) (rs : Tb), σ = [some (.ref a), some (.ref b), some (.ref w), some (.ref x), some (.ref l), none, none] /\ aj H1 H3 /\ H3 l = some (.lst ys) /\ cc H3 ys (rs.map (·.1)) /\ (rs = tb ∨ rs = tb.reverse)) (fun N hN => ?_) ?_
  ·walk_at "gzn"
   refine ⟨a, ns, _, _, rfl, (s1.trans s2).seq hS, hn, by omega, by omega, fun pp Xh Xi => ?_⟩
   walk_at "gzn"
   refine bC (fun _ => ?_) fun _ => hN _ _ ⟨ys, tb, rfl, s2, hl, hY, .inl rfl⟩
   refine ⟨.inl ⟨rfl, _, ai.of hl⟩, _, hl, hN _ _ ⟨ys.reverse, tb.reverse, rfl, jR fl s2, aw, ?_, .inr rfl⟩⟩
   rw [List.map_reverse]
   exact cc.put (ak.rev hY) hl
  rintro σ H3 ⟨ys, rs, rfl, s3, cj, HQ, oi⟩
  have oj : bR e t rs := by
   rcases oi with rfl | rfl
   ·exact ag
   ·refine ⟨?_, fun r hr => ag.2 r (List.mem_reverse.mp hr)⟩
    rw [List.map_reverse]
    exact (List.reverse_perm _).nodup_iff.mpr ag.1
  have QG : ∀ r ∈ rs, r ∈ tb := fun r hr => by
   rcases oi with rfl | rfl
   ·exact hr
   ·exact List.mem_reverse.mp hr
  have Xj : rs.length <= 30 := by
   rcases oi with rfl | rfl
   ·exact HP
   ·rw [List.length_reverse]; exact HP
  have yl := HQ.len
  rw [List.length_map] at yl
  refine aO (fun σ H4 => (∃ e1 e2, σ = [some (.ref a), some (.ref b), some (.ref w), some (.ref x), some (.ref l), e1, e2]) /\ aj H H4 /\ cR T.aE H4 x e t u d m p rs) (fun N hN => ?_) ?_
  ·walk_at "gzn"
   have S3 := s1.trans s3
   have HR := hB.same s3
   obtain ⟨⟨dx, Xk⟩, kp, we, Xl⟩ := id HR
   have lp : l ≠ p := fun z => by rw [z, we] at cj; cases cj
   have wp : w ≠ p := fun z => by rw [z, fp] at hk; cases hk
   refine ⟨⟨_, ai.of cj⟩, lO (xs := ys) (QB T.aE H3 a b w x l p e t u d m rs) ⟨⟨_, _, rfl⟩, fun _ _ _ z => z, HR⟩ ?_ ?_ ?_⟩
   ·rintro i σ H4 _ ⟨_, bu, _⟩
    exact ai.of (bu l _ (by simpa using lp) cj)
   ·rintro i y σ H4 hy ⟨⟨e1, e2, rfl⟩, bu, oo⟩
    obtain ⟨r1, dC, ty, rfl, jL⟩ := HQ.get hy
    rw [List.getElem?_map] at dC
    obtain ⟨r, hr, rfl⟩ := Option.map_eq_some_iff.mp dC
    have typ : ty ≠ p := fun z => by rw [z, we] at jL; cases jL
    have kR := QG r (List.mem_of_getElem? hr)
    have HS := bu w _ (by simpa using wp) (S3 _ _ hk)
    obtain ⟨⟨HU, rp⟩, kq, z6, HV⟩ := id oo
    obtain ⟨v, hv, iv⟩ := (hA.val r.1).2 _ (ml ag.1 kR)
    obtain ⟨va, rfl, hva⟩ := id iv
    have QH : va ≠ p := fun z => by rw [z, fp] at hva; cases hva
    have HW := bu va _ (by simpa using QH) (S3 _ _ hva)
    refine lZ (ar.of (bu ty _ (by simpa using typ) jL)) ?_
    walk_at "gzn"
    refine ⟨_, _, rp, rfl, bQ, fun k1 F4 => ?_⟩
    have v1 := aB (o := .tup [.int r.1.1, .int r.1.2]) F4
    refine ⟨.ref va, by rw [<- hv]; exact bA.t (k := aH r.1.1 r.1.2) (v1 _ _ HS) aw, aI (ar.of (v1 _ _ HW)) rfl ⟨bQ, fun k2 eQ => ?_⟩⟩
    have v2 := aB (o := .tup [.int r.1.1, .int r.1.2]) eQ
    have jx := v1.trans v2
    refine ⟨.ref va, by rw [<- hv]; exact bA.t (k := aH r.1.1 r.1.2) (jx _ _ HS) aw, aI (ar.of (jx _ _ HW)) rfl ?_⟩
    have wo := oj.2 r (List.mem_of_getElem? hr)
    have kl := HV.len
    rw [List.length_take] at kl
    have xp : x ≠ p := fun z => by rw [z, z6] at rp; cases rp
    refine ⟨x, p, e, t, u, d, m, r.1.1, r.1.2, r.2.1, r.2.2, kq, rfl, ⟨⟨HU, jx _ _ rp⟩, jx _ _ z6⟩, by omega, fun z => absurd ⟨wo, d6 r kR⟩ z, fun _ v9 H9 sb z7 z9 => ⟨⟨_, _, rfl⟩, fun c o hc ec => sb c o (by simpa using hc) (jx c o (bu c o hc ec)), ?_⟩⟩
    have ek : rs.take (i + 1) = cu (rs.take i) r.1 r.2 := by
     rw [Qz (QA oj.1 hr), List.take_succ, hr]
     rfl
    rw [ek]
    exact ⟨⟨HU, sb x _ xp (jx _ _ rp)⟩, _, z7, aK.put (HV.imp fun v a b z => (aQ.same z jx).fr (SameBut.fr sb (jx _ _ z6))) z9⟩
   ·rintro σ H4 ⟨⟨e1, e2, rfl⟩, bu, oo⟩
    rw [yl, List.take_length] at oo
    exact hN _ _ ⟨⟨_, _, rfl⟩, fun c o ec => bu c o (by simpa using fun z => by rw [z, fp] at ec; cases ec) (S3 c o ec), oo⟩
  rintro σ H4 ⟨⟨e1, e2, rfl⟩, s4, oo⟩
  walk_at "gzn"
  exact q x p rs H4 s4 fx fp oo oi
end
section
seal L2.PE L2.PS L2.bo L2.PA
variable {P : Program} {w : World} {K : PySem.W.Frag} {mg : Str -> Option Value} {base : Heap}
noncomputable def QI (K : PySem.W.Frag) (B : Addr) : Sp := fun vs H Q _ => ∃ (a b c w x p : Addr) (ns cs : List Int) (e t u d m f : Int) (tb rs : Tb), vs = [.ref a, .ref b, .ref c, .ref w, .ref x] /\ ai K H a (ns.map V.int) /\ dP ns /\ ai K H b (dZ e t u d m f) /\ f6 e t u d m f /\ ai K H c (cs.map V.int) /\ cs.length = t.toNat /\ TabAt H w tb /\ cR B H x e t u d m p rs /\ w ≠ p /\ rs.Perm tb /\ bR e t tb /\ tb.length <= 60 /\ (∀ r ∈ tb, bg r.2.1 r.2.2 = false) /\ ∀ (bB f7 : Tb) (H' : Hp), cY [w, p] H H' -> TabAt H' w bB -> cR B H' x e t u d m p f7 -> f7.Perm bB -> bR e t bB -> bB.length <= tb.length + 1 -> (∀ r ∈ bB, bg r.2.1 r.2.2 = false) -> Q .non H'
theorem QJ (T : Tx K mg) : aL P w K mg base (aM P w) 4 T.jn T.vP ["_law_script", "_law_shape_here", "_law_course_here", "_law_told_here", "_law_board_here"] (QI K T.aE) := by
 refine okN T.nV GQ (fun vs H Q E h => ?_) (fun aD A outer s H vs Q E hr h => ?_)
 ·obtain ⟨a, b, c, w, x, p, ns, cs, e, t, u, d, m, f, tb, rs, rfl, _⟩ := h
  rfl
 ·obtain ⟨a, b, c, w, x, p, ns, cs, e, t, u, d, m, f, tb, rs, rfl, hS, hn, hb, sh, hc, dq, hT, hB, wp, bK, ag, Aa, d6, q⟩ := h
  refine ⟨_, (ao (aF (i := 5) GQ.nd rfl (Or.inl rfl) (bH (aa (aG (bS T) (hr.mono (by decide)) rfl T.bL T.br.kp T.bD .nil aC (aa (pv 0) (aa ae (aa (au az (pv 1) ae (fun _ _ => rfl)) ah)))) (aa (aG (bS T) (hr.mono (by decide)) rfl T.bL T.br.kp T.bD .nil aC (aa (pv 0) (aa ae (aa (au az (pv 1) ae (fun _ _ => rfl)) ah)))) ah))))
  (ax (bc (PW.pt (oH (c7 (KR (cL hr) (pv 5) (pv 3))) (rV (bN ig (aG (bS T) (hr.mono (by decide)) rfl T.bL T.br.kp T.bD .nil aC (aa (pv 0) (aa ae (aa ae ah)))) ae (bp _))))) (ao (dE (fK (pv 4) T.bw T.Hj (Pf T) (hr.mono (by decide)) T.vq .nil aC (aa (au az (pv 5) ae (fun _ _ => rfl)) (aa (au az (pv 5) ae (fun _ _ => rfl)) ah))))
    (ax (dE (Fu (cL hr) (pv 3) (pv 5) ⟨rfl, rfl, rfl, rfl⟩)))) (ao (sx (cL hr) (pv 3) (pv 5) (aG (HK T) (hr.mono (by decide)) rfl T.zK T.kB.kp T.qS .nil aC (aa (pv 0) (aa ae (aa (au az (pv 1) ae (fun _ _ => rfl)) (aa (au az (pv 2) (au az (pv 5) ae (fun _ _ => rfl)) (fun _ _ => rfl)) (aa k6 ah)))))) rfl)
    (ax (dE (fK (pv 4) T.bw T.zP (Ht T) (hr.mono (by decide)) T.qM .nil aC (aa (au az (pv 5) ae (fun _ _ => rfl)) (aa (au az (pv 5) ae (fun _ _ => rfl)) (aa (au az (jO (cL hr) (pv 3) (pv 5) (fun _ _ => rfl)) ae (fun _ _ => rfl)) (aa (au az (jO (cL hr) (pv 3) (pv 5) (fun _ _ => rfl)) ae (fun _ _ => rfl)) ah))))))))))), ?_⟩
  obtain ⟨he, ht, -, -, -, hf⟩ := id sh
  refine aO (fun σ H1 => ∃ (z : Addr) (i j : Nat), σ = [some (.ref a), some (.ref b), some (.ref c), some (.ref w), some (.ref x), some (.ref z)] /\ aj H H1 /\ H1 z = some (.tup [.int i, .int j]) /\ (i : Int) < e /\ (j : Int) < t) (fun N hN => ?_) ?_
  ·walk_at "gzn"
   refine a9 hb (v := .int e) rfl ?_
   refine ⟨a, ns, _, _, rfl, hS, hn, by omega, by omega, fun p1 Xm Xn => ?_⟩
   refine a9 hb (v := .int t) rfl ?_
   refine ⟨a, ns, _, _, rfl, hS, hn, by omega, by omega, fun p2 Xo Xp => ?_⟩
   refine ⟨bQ, fun z hz => hN _ _ ⟨z, p1.toNat, p2.toNat, rfl, aB hz, ?_, by omega, by omega⟩⟩
   rw [aw, show ((p1.toNat : Nat) : Int) = p1 by omega, show ((p2.toNat : Nat) : Int) = p2 by omega]
  rintro σ H1 ⟨z, i, j, rfl, s1, hz, hi, hj⟩
  have T1 := hT.same s1
  have B1 := hB.same s1
  obtain ⟨kw, hkw, wt⟩ := id T1
  obtain ⟨⟨dx, hx⟩, kp, hkp, wu⟩ := id B1
  have kS : (rs.map (·.1)).Nodup := (bK.map _).nodup_iff.mpr ag.1
  have oj : bR e t rs := ⟨kS, fun r hr => ag.2 r (bK.mem_iff.mp hr)⟩
  have wl := wt.len
  have pl := wu.len
  have rl := bK.length_eq
  have wo : kc e t ((i : Int), (j : Int)) := ⟨⟨by show (0 : Int) <= (i : Int); omega, hi⟩, by show (0 : Int) <= (j : Int); omega, hj⟩
  have zw : z ≠ w := fun h => by rw [h, hkw] at hz; cases hz
  have zp : z ≠ p := fun h => by rw [h, hkp] at hz; cases hz
  have xw : x ≠ w := fun h => by rw [h, hkw] at hx; cases hx
  have xp : x ≠ p := fun h => by rw [h, hkp] at hx; cases hx
  have QK : ∀ (R : V -> Hp -> Prop), R = (fun _ H' => Q .non H') -> ∀ (v : V) (wq : Addr) (lo hi : En) (H7 : Hp), v = .ref wq -> aj H1 H7 -> H7 wq = some (.tup [ev lo, ev hi]) -> bg lo hi = false -> ∃ kT, eI H7 w (.ref z) v kT /\ ∃ Ab rq, kT x = some (HO.ins T.aE Ab rq) /\ List.lookup (Str.ofString "tell") rq = none /\ dc K (.ref z) (.int 0) kT fun Ac H1 => dc K (.ref z) (.int 1) H1 fun Ad H1 => ∃ rz, bA H1 w (.ref z) (some rz) /\ dc K rz (.int 0) H1 fun Ae H1 => ∃ rA, bA H1 w (.ref z) (some rA) /\ dc K rA (.int 1) H1 fun Af H1 => zS T.aE T.cF [.ref x, Ac, Ad, Ae, Af] H1 R E0 := by
   rintro R rfl v wq lo hi H7 rfl s7 rB oh
   have Ag := s7 _ _ hkw
   have F8 : Fr H7 (upd H7 w (.dT (putK kw (aH (i : Int) (j : Int)) (.ref wq)))) := yR Ag
   have z8 : upd H7 w (.dT (putK kw (aH (i : Int) (j : Int)) (.ref wq))) z = some (.tup [.int (i : Int), .int (j : Int)]) := by rw [ay zw]; exact s7 _ _ hz
   have QL : wq ≠ w := fun h => by rw [h, Ag] at rB; cases rB
   have wx : upd H7 w (.dT (putK kw (aH (i : Int) (j : Int)) (.ref wq))) wq = some (.tup [ev lo, ev hi]) := by rw [ay QL]; exact rB
   have w8 : upd H7 w (.dT (putK kw (aH (i : Int) (j : Int)) (.ref wq))) w = some (.dT (putK kw (aH (i : Int) (j : Int)) (.ref wq))) := aw
   have wy : upd H7 w (.dT (putK kw (aH (i : Int) (j : Int)) (.ref wq))) x = some (.ins T.aE dx (v8 e t u d m p)) := by rw [ay xw]; exact s7 _ _ hx
   have Ah : upd H7 w (.dT (putK kw (aH (i : Int) (j : Int)) (.ref wq))) p = some (.dT kp) := by rw [ay (Ne.symm wp)]; exact s7 _ _ hkp
   have TW : aK (upd H7 w (.dT (putK kw (aH (i : Int) (j : Int)) (.ref wq)))) (putK kw (aH (i : Int) (j : Int)) (.ref wq)) (cu tb ((i : Int), (j : Int)) (lo, hi)) := aK.put (s := ((i : Int), (j : Int))) (w := (lo, hi)) (wt.imp fun _ _ _ zz => (aQ.same zz s7).fr F8) ⟨wq, rfl, wx⟩
   have HX : aK (upd H7 w (.dT (putK kw (aH (i : Int) (j : Int)) (.ref wq)))) kp rs := wu.imp fun _ _ _ zz => (aQ.same zz s7).fr F8
   have vv : aY (putK kw (aH (i : Int) (j : Int)) (.ref wq)) (aH (i : Int) (j : Int)) = some (.ref wq) := by rw [KG, if_pos rfl]
   have BU : cY [w, p] H (upd H7 w (.dT (putK kw (aH (i : Int) (j : Int)) (.ref wq)))) := fun b o hb h => by
    have fY : b ≠ w /\ b ≠ p := by simpa using hb
    rw [ay fY.1]; exact s7 _ _ (s1 _ _ h)
   refine ⟨_, eI.t (k := aH (i : Int) (j : Int)) Ag (s7 _ _ hz) (Nat.lt_of_le_of_lt (by omega : kw.length <= 60) (by decide)), _, _, wy, rfl, aI (ar.of z8) rfl (aI (ar.of z8) rfl ⟨.ref wq, by rw [<- vv]; exact bA.t (k := aH (i : Int) (j : Int)) w8 z8, aI (ar.of wx) rfl ⟨.ref wq, by rw [<- vv]; exact bA.t (k := aH (i : Int) (j : Int)) w8 z8, aI (ar.of wx) rfl ?_⟩⟩)⟩
   generalize upd H7 w (.dT (putK kw (aH (i : Int) (j : Int)) (.ref wq))) = H8 at z8 wx w8 wy Ah TW HX BU
   refine ⟨x, p, e, t, u, d, m, (i : Int), (j : Int), lo, hi, kp, rfl, ⟨⟨dx, wy⟩, Ah⟩, by omega, fun zz => absurd ⟨wo, oh⟩ zz, fun _ v9 H9 sb z7 z9 => ?_⟩
   have F9 : Fr H8 H9 := SameBut.fr sb Ah
   refine q (cu tb ((i : Int), (j : Int)) (lo, hi)) (cu rs ((i : Int), (j : Int)) (lo, hi)) H9 (fun b o hb h => ?_) ⟨_, sb w _ wp w8, TW.imp fun _ _ _ zz => zz.fr F9⟩ ⟨⟨dx, sb x _ xp wy⟩, _, z7, aK.put (s := ((i : Int), (j : Int))) (w := (lo, hi)) (HX.imp fun _ _ _ zz => zz.fr F9) z9⟩ (M7 bK) (ag.put wo) (Fz _ _ _) fun r hr => ?_
   ·have fY : b ≠ w /\ b ≠ p := by simpa using hb
    exact sb b o fY.2 (BU b o hb h)
   ·rcases M9 hr with zz | zz
    ·exact d6 r zz
    ·rw [zz]; exact oh
  have PW : dc K (V.ref b) (V.int 5) H1 fun QM H1 => dc K (V.ref z) (V.int 1) H1 fun y H2 => dc K (V.ref c) y H2 fun QN H1 => HI K [V.ref a, V.int 230, QM, QN, V.bl true] H1 (fun v H1 => ∃ kT, eI H1 w (V.ref z) v kT /\ ∃ Ab rq, kT x = some (HO.ins T.aE Ab rq) /\ List.lookup (Str.ofString "tell") rq = none /\ dc K (V.ref z) (V.int 0) kT fun Ac H1 => dc K (V.ref z) (V.int 1) H1 fun Ad H1 => ∃ rz, bA H1 w (V.ref z) (some rz) /\ dc K rz (V.int 0) H1 fun Ae H1 => ∃ rA, bA H1 w (V.ref z) (some rA) /\ dc K rA (V.int 1) H1 fun Af H1 => zS T.aE T.cF [V.ref x, Ac, Ad, Ae, Af] H1 (fun x H1 => Q V.non H1) E0) E0 := by
   refine a9 (s1.seq hb) (v := .int f) rfl (aI (ar.of hz) rfl (a9 (s1.seq hc) (gA (M6 (by omega))) ?_))
   exact ⟨a, ns, _, _, _, _, rfl, s1.seq hS, hn, by omega, hf, fun wq lo hi H7 s7 _ rB oh _ => QK _ rfl _ wq lo hi H7 rfl s7 rB oh⟩
  walk_at "gzn"
  refine ⟨_, bA.t (k := aH (i : Int) (j : Int)) hkw hz, bC (fun h1 => ?_) fun h1 => ?_⟩
  ·refine ⟨a, ns, _, _, rfl, s1.seq hS, hn, by omega, by omega, fun p3 Xq Xr => ?_⟩
   refine ⟨_, rfl, bC (fun h2 => ?_) fun h2 => ?_⟩
   ·obtain ⟨v1, gP⟩ := Option.isSome_iff_exists.mp h1
    have vt : ∃ w1, cX tb ((i : Int), (j : Int)) = some w1 := by
     cases hh : cX tb ((i : Int), (j : Int)) with
     | none => rw [(wt.val ((i : Int), (j : Int))).1 hh] at gP; cases gP
     | some w1 => exact ⟨w1, rfl⟩
    obtain ⟨w1, QO⟩ := vt
    have kR : (((i : Int), (j : Int)), w1) ∈ rs := bK.mem_iff.mpr (Mz QO)
    obtain ⟨v2, ku, _⟩ := (wu.val ((i : Int), (j : Int))).2 _ (ml kS kR)
    refine ⟨_, _, hx, rfl, aI (ar.of hz) rfl (aI (ar.of hz) rfl ⟨x, p, e, t, u, d, m, (i : Int), (j : Int), kp, rfl, ⟨⟨dx, hx⟩, hkp⟩, fun zz => absurd (ku.symm.trans zz) (fun h => nomatch h), fun v' _ H2 sb jM => ?_⟩)⟩
    have F2 : Fr H1 H2 := SameBut.fr sb hkp
    have kI := sb w _ wp hkw
    refine ⟨.inr ⟨kw, .inl kI⟩, kw, kI, aH (i : Int) (j : Int), sb z _ zp hz, v1, gP, ?_⟩
    have F3 : Fr H2 (upd H2 w (.dT (eE kw (aH (i : Int) (j : Int))))) := yR kI
    refine q (j9 tb ((i : Int), (j : Int))) (j9 rs ((i : Int), (j : Int))) _ (fun b o hb h => ?_) ⟨_, aw, aK.drop (s := ((i : Int), (j : Int))) ((wt.imp fun _ _ _ zz => zz.fr F2).imp fun _ _ _ zz => zz.fr F3)⟩ ⟨⟨dx, by rw [ay xw]; exact sb x _ xp hx⟩, _, by rw [ay (Ne.symm wp)]; exact jM, aK.drop (s := ((i : Int), (j : Int))) ((wu.imp fun _ _ _ zz => zz.fr F2).imp fun _ _ _ zz => zz.fr F3)⟩ (M8 bK) ag.drop (Nat.le_succ_of_le (List.length_filter_le _ _)) fun r hr => d6 r (List.mem_filter.mp hr).1
    have fY : b ≠ w /\ b ≠ p := by simpa using hb
    rw [ay fY.1]
    exact sb b o fY.2 (s1 _ _ h)
   ·exact PW
  ·exact PW
end
section
seal L2.PE L2.PS L2.bo L2.PA
variable {P : Program} {w : World} {K : PySem.W.Frag} {mg : Str -> Option Value} {base : Heap}
theorem QP (tb : Tb) : Gd 3 (.list (tb.map FD)) := .lst fun d hd => by
 obtain ⟨r, _, rfl⟩ := List.mem_map.mp hd
 refine .tup fun d hd => ?_
 simp only [List.mem_cons, List.not_mem_nil, or_false] at hd
 rcases hd with rfl | rfl | rfl
 ·exact (Gd.int _).up (by decide)
 ·exact (Gd.int _).up (by decide)
 ·exact MG r.2
noncomputable def QQ (K : PySem.W.Frag) (B : Addr) : Sp := fun vs H Q _ => ∃ (x p w : Addr) (e t u d m : Int) (tb rs : Tb), vs = [.ref x, .ref w] /\ cR B H x e t u d m p rs /\ TabAt H w tb /\ bR e t tb /\ rs.Perm tb /\ tb.length < 64 /\ ∀ H', aj H H' -> Q (.bl true) H'
theorem QR (T : Tx K mg) : aL P w K mg base (aM P w) 2 T.jm T.vN ["_law_board_here", "_law_told_here"] (QQ K T.aE) := by
 refine okN T.nU GP (fun vs H Q E h => ?_) (fun aD A outer s H vs Q E hr h => ?_)
 ·obtain ⟨x, p, w, e, t, u, d, m, tb, rs, rfl, _⟩ := h
  rfl
 ·obtain ⟨x, p, w, e, t, u, d, m, tb, rs, rfl, hB, hT, ag, bK, cO, q⟩ := h
  refine ⟨_, (ao (aF (i := 2) GP.nd rfl (Or.inl rfl) (bX Ft (by rfl) T.qZ sF (aa (xR (yM rfl) (by rfl) T.qY sH (aa (pv 1) ah)) ah)))
  (ax (aV (ly (EI hr.units) (DH (pv 0) T.bw T.zQ (Hu T) (hr.mono (by decide)) T.qP .nil aC) (j4 (eM.mk (fr := [1]) (ys := ["_law_told_here"]) rfl (by decide +kernel) rfl (by decide +kernel) rfl rfl (.cons rfl .nil) (.cons rfl rfl rfl rfl .nil) (by decide) rfl) rfl (fb (pv 2)) (fun C s2 H2 ex pn => ⟨lT, (bH (aa (au (fj (K := K) rfl) (pv 0) ae (fun _ _ => rfl)) (aa (au (fj (K := K) rfl) (pv 0) ae (fun _ _ => rfl)) (aa (Fw (cL hr) (pv 1) (pv 0) (fun _ _ => rfl)) ah))))⟩)) (bp _))))), ?_⟩
  obtain ⟨kvs, kN, hA⟩ := id hT
  obtain ⟨⟨dx, hx⟩, _⟩ := id hB
  have kS : (rs.map (·.1)).Nodup := (bK.map _).nodup_iff.mpr ag.1
  walk_at "gzn"
  refine ⟨kvs, kN, fun l ys hl kQ => ?_⟩
  have P0 : ak (fun v (r : P2 × S2) => aW H v r.1) ys tb := ak.bind (hA.ql kQ)
  have u1 := aB (o := .lst ys) hl
  refine ⟨ys, ai.of aw, dR tb, FC (P0.imp fun _ _ r => aW.same r u1), by rw [P0.len]; exact cO, fun l2 bP => ?_⟩
  have PS := FA hA kQ
  have pl := PS.len
  rw [uc] at pl
  generalize bJ (dR tb) .non ys = zs at PS pl
  have u2 := aB (o := .lst zs) bP
  have SS := u1.trans u2
  have z2 : upd (upd H l (.lst ys)) l2 (.lst zs) l2 = some (.lst zs) := aw
  generalize upd (upd H l (.lst ys)) l2 (.lst zs) = H2 at SS z2
  refine ⟨_, _, SS _ _ hx, rfl, x, p, e, t, u, d, m, rs, rfl, hB.same SS, kS, by rw [bK.length_eq]; exact cO, fun l3 Xs H3 s3 _ cj kK => ⟨⟨_, ai.of (s3 _ _ z2)⟩, j6 yz (Nat.le_trans (by omega : zs.length <= 64) (by decide)) (l9 (R := fun Hx v (r : P2 × S2) => aW Hx v r.1) (R' := fun Hx v (r : P2 × S2) => cP Hx v r) (f := fun r => r) (bs := []) (fun _ _ _ _ s r => aW.same r s) (fun _ _ _ _ s r => cP.same r s) (PS.imp fun _ _ r => aW.same r (SS.trans s3)) trivial (fun H' s' => ai.of ((s3.trans s') _ _ z2)) (fun v r _ H4 s4 h0 Q h => ?_) (fun v r bV H4 s4 h0 Q h => ?_) fun H4 ts s4 wd => ?_)⟩⟩
  ·walk_at "gzn"
   exact h
  ·obtain ⟨ka, rfl, g8⟩ := id h0
   have S4 := SS.trans (s3.trans s4)
   obtain ⟨v, hv, iv⟩ := (hA.val r.1).2 _ (ml ag.1 (qm bV))
   walk_at "gzn"
   refine aI (ar.of g8) rfl (aI (ar.of g8) rfl ⟨v, ?_, ?_⟩)
   ·rw [<- hv]; exact bA.t (k := aH r.1.1 r.1.2) (S4 _ _ kN) g8
   ·exact ⟨by decide, fun z hz => h _ _ (aB hz) ⟨z, v, rfl, aw, aQ.same iv (S4.trans (aB hz))⟩⟩
  rw [List.nil_append, List.map_id'] at wd
  rw [MW kS bK] at kK
  intro l4 kL
  have u4 := aB (o := .lst ts) kL
  exact yU (.lst (ai.of ((s4.trans u4) _ _ cj)) (yS (kK.imp fun _ _ r => cP.same r (s4.trans u4)))) (.lst (ai.of aw) (yS (wd.imp fun _ _ r => cP.same r u4))) (QP _) (by decide) (q _ (SS.trans (s3.trans (s4.trans u4))))
end
section
seal L2.PE L2.PS L2.bo L2.PA
variable {P : Program} {w : World} {K : PySem.W.Frag} {mg : Str -> Option Value} {base : Heap}
noncomputable def QS (K : PySem.W.Frag) : Sp := fun vs H Q _ => ∃ (b : Addr) (e t u d m f x y : Int), vs = [.ref b, .int x, .int y] /\ ai K H b (dZ e t u d m f) /\ f6 e t u d m f /\ (0 <= x /\ x < 12) /\ (0 <= y /\ y < 12) /\ Q (.int (mD u d x y)) H
theorem QT (T : Tx K mg) : aL P w K mg base (aM P w) 1 T.jo T.vR ["_law_shape_here", "_law_one", "_law_other"] (QS K) := by
 refine okN T.nW OT (fun vs H Q E h => ?_) (fun aD A outer s H vs Q E hr h => ?_)
 ·obtain ⟨b, e, t, u, d, m, f, x, y, rfl, _⟩ := h
  rfl
 ·obtain ⟨b, e, t, u, d, m, f, x, y, rfl, hb, sh, hx, hy, q⟩ := h
  refine ⟨_, (ao (bc (bN lx (pv 1) (pv 2) (bp _)) (ax (aV (aA eJ (au az (pv 0) ae (fun _ _ => rfl)) (aA ff (pv 2) (pv 1))))) bf)
  (ax (aV (aA eJ (au az (pv 0) ae (fun _ _ => rfl)) (aA ff (pv 1) (pv 2)))))), ?_⟩
  obtain ⟨he, ht, ⟨u1, u2⟩, ⟨d1, d2⟩, -, hf⟩ := id sh
  unfold mD at q
  walk_at "gzn"
  refine bC (fun hc => ?_) fun hc => ?_
  ·rw [if_pos hc] at q
   exact a9 hb (v := .int u) rfl ⟨_, rfl, fk (by omega) (by omega), q⟩
  ·rw [if_neg hc] at q
   exact a9 hb (v := .int d) rfl ⟨_, rfl, fk (by omega) (by omega), q⟩
noncomputable def wz (u d : Int) (r s : P2 × S2) : Bool := match r.2.2, s.2.1 with
 | some h, some l => decide (l - h > mD u d r.1.2 s.1.2)
 | _, _ => false
theorem HY {u d : Int} {r s : P2 × S2} : wz u d r s = true ↔ iK u d r s := by
 obtain ⟨p, lo, hi⟩ := r
 obtain ⟨p', QU, aZ⟩ := s
 unfold wz iK
 cases hi with
 | none => simp
 | some h =>
  cases QU with
  | none => simp
  | some l =>
   simp
   omega
noncomputable def QV (K : PySem.W.Frag) : Sp := fun vs H Q _ => ∃ (b w k1 k2 : Addr) (e t u d m f : Int) (o : Obj) (kvs : List (List Key × V)) (tb : Tb) (r s : P2 × S2), vs = [.ref b, .ref w, .ref k1, .ref k2] /\ ai K H b (dZ e t u d m f) /\ f6 e t u d m f /\ H w = some (.aJ o (.dT kvs)) /\ aK H kvs tb /\ bR e t tb /\ r ∈ tb /\ s ∈ tb /\ H k1 = some (.tup [.int r.1.1, .int r.1.2]) /\ H k2 = some (.tup [.int s.1.1, .int s.1.2]) /\ Q (.bl (wz u d r s)) H
theorem QW (T : Tx K mg) : aL P w K mg base (aM P w) 2 T.jq T.vT ["_law_shape_here", "_law_told_here", "_law_one", "_law_other"] (QV K) := by
 refine okN T.nX zG (fun vs H Q E h => ?_) (fun aD A outer s H vs Q E hr h => ?_)
 ·obtain ⟨b, w, k1, k2, e, t, u, d, m, f, o, kvs, tb, r, s, rfl, _⟩ := h
  rfl
 ·obtain ⟨b, w, k1, k2, e, t, u, d, m, f, o, kvs, tb, r, s, rfl, hb, sh, hw, hA, ag, dC, qz, h1, h2, q⟩ := h
  refine ⟨_, (ao (aF (i := 4) zG.nd rfl (Or.inl rfl) (au az (jO (cL hr) (pv 1) (pv 2) (fun _ _ => rfl)) ae (fun _ _ => rfl)))
  (ao (aF (i := 5) zG.nd rfl (Or.inl rfl) (au az (jO (cL hr) (pv 1) (pv 3) (fun _ _ => rfl)) ae (fun _ _ => rfl)))
  (ao (bc (PW.pt (ee (c7 (jz (pv 4))) (gf (c7 (jz (pv 5)))))) (ax (aV k6)) bf)
  (ax (aV (ly ig (aA ff (pv 5) (pv 4)) (aG (QT T) (hr.mono (by decide)) rfl T.G9 T.nW.kp T.vS .nil aC (aa (pv 0) (aa (au az (pv 2) ae (fun _ _ => rfl)) (aa (au az (pv 3) ae (fun _ _ => rfl)) ah)))) (bp _))))))), ?_⟩
  obtain ⟨he, ht, ⟨u1, u2⟩, ⟨d1, d2⟩, -, hf⟩ := id sh
  obtain ⟨⟨_, _⟩, r3, r4⟩ := ag.2 r dC
  obtain ⟨⟨_, _⟩, s3, s4⟩ := ag.2 s qz
  obtain ⟨v1, gP, a1, rfl, wj⟩ := (hA.val r.1).2 _ (ml ag.1 dC)
  obtain ⟨v2, ku, a2, rfl, QX⟩ := (hA.val s.1).2 _ (ml ag.1 qz)
  unfold wz at q
  walk_at "gzn"
  refine ⟨_, by rw [<- gP]; exact bA.z (k := aH r.1.1 r.1.2) hw h1, aI (ar.of wj) (v := ev r.2.2) rfl ⟨_, by rw [<- ku]; exact bA.z (k := aH s.1.1 s.1.2) hw h2, aI (ar.of QX) (v := ev s.2.1) rfl ?_⟩⟩
  obtain ⟨p1, lo1, QY⟩ := r
  obtain ⟨p2, QZ, kj⟩ := s
  dsimp only at *
  cases QY with
  | none =>
   walk_at "gzn"
   exact q
  | some hh =>
   cases QZ with
   | none =>
    walk_at "gzn"
    exact q
   | some ll =>
    walk_at "gzn"
    exact aI (ar.of h1) (v := .int p1.2) rfl (aI (ar.of h2) (v := .int p2.2) rfl ⟨b, e, t, u, d, m, f, _, _, rfl, hb, sh, ⟨r3, by omega⟩, ⟨s3, by omega⟩, _, rfl, q⟩)
end
section
seal L2.PE L2.PS L2.bo L2.PA
variable {P : Program} {w : World} {K : PySem.W.Frag} {mg : Str -> Option Value} {base : Heap}
theorem HZ {α : Type} [DecidableEq α] : ∀ (l L : List α), l.Nodup -> (∀ x ∈ l, x ∈ L) -> l.length <= L.length
 | [], _, _, _ => Nat.zero_le _
 | x :: l, L, hn, h => by
  rw [List.nodup_cons] at hn
  have := HZ l (L.erase x) hn.2 fun y hy => (List.mem_erase_of_ne (fun z => hn.1 (by rw [<- z]; exact hy))).mpr (h y (.tail _ hy))
  rw [List.length_erase_of_mem (h x (.head _))] at this
  have := List.length_pos_of_mem (h x (.head _))
  rw [List.length_cons]
  omega
noncomputable def Ia : List P2 := (List.range 7).flatMap fun (a : Nat) => (List.range 7).map fun (b : Nat) => ((a : Int), (b : Int))
theorem Q0 {p : P2} (h1 : 0 <= p.1 /\ p.1 < 7) (h2 : 0 <= p.2 /\ p.2 < 7) : p ∈ Ia :=
 List.mem_flatMap.mpr ⟨p.1.toNat, List.mem_range.mpr (by omega), List.mem_map.mpr ⟨p.2.toNat, List.mem_range.mpr (by omega), Prod.ext (Int.toNat_of_nonneg h1.1) (Int.toNat_of_nonneg h2.1)⟩⟩
noncomputable def eV (p : P2) : List Key × V := (aH p.1 p.2, .bl true)
noncomputable def kU (ks : List P2) (p : P2) : List P2 := if p ∈ ks then ks else ks ++ [p]
theorem Q1 {ks : List P2} {p x : P2} : x ∈ kU ks p ↔ x ∈ ks ∨ x = p := by
 unfold kU
 by_cases h : p ∈ ks
 ·rw [if_pos h]
  exact ⟨.inl, fun z => z.elim id fun z => z ▸ h⟩
 ·rw [if_neg h, List.mem_append, List.mem_singleton]
theorem Q2 {ks : List P2} {p : P2} (h : ks.Nodup) : (kU ks p).Nodup := by
 unfold kU
 by_cases hp : p ∈ ks
 ·rw [if_pos hp]; exact h
 ·rw [if_neg hp]
  refine List.nodup_append.mpr ⟨h, List.nodup_cons.mpr ⟨by simp, List.nodup_nil⟩, fun a ha b hb => ?_⟩
  obtain rfl : b = p := by simpa using hb
  exact fun z => hp (z ▸ ha)
theorem Q3 (ks : List P2) (p : P2) : putK (ks.map eV) (aH p.1 p.2) (.bl true) = (kU ks p).map eV := by
 unfold putK kU
 have e1 : ((ks.map eV).any fun kv => decide (kv.1 = aH p.1 p.2)) = decide (p ∈ ks) := by
  rw [Bool.eq_iff_iff, List.any_eq_true, decide_eq_true_eq]
  constructor
  ·rintro ⟨kv, hk, h⟩
   obtain ⟨r, hr, rfl⟩ := List.mem_map.mp hk
   have := qk (of_decide_eq_true h)
   rw [<- this]; exact hr
  ·exact fun h => ⟨eV p, List.mem_map.mpr ⟨p, h, rfl⟩, decide_eq_true rfl⟩
 rw [e1]
 by_cases h : p ∈ ks
 ·rw [if_pos (decide_eq_true h), if_pos h, List.map_map]
  refine List.map_congr_left fun r _ => ?_
  show (if (eV r).1 = aH p.1 p.2 then ((eV r).1, V.bl true) else eV r) = eV r
  by_cases hh : (eV r).1 = aH p.1 p.2
  ·rw [if_pos hh]; rfl
  ·rw [if_neg hh]
 ·rw [if_neg (by simpa using h), if_neg h, List.map_append]
  rfl
noncomputable def oq (u d : Int) (tb : Tb) (i : Nat) (p : P2) : Prop := ∃ r ∈ tb.take i, ∃ s ∈ tb, iK u d r s /\ p = (min r.1.1 s.1.1, max r.1.1 s.1.1)
noncomputable def ot (u d : Int) (tb : Tb) (r : P2 × S2) (j : Nat) (p : P2) : Prop := ∃ s ∈ tb.take j, iK u d r s /\ p = (min r.1.1 s.1.1, max r.1.1 s.1.1)
theorem Q4 {u d : Int} {tb : Tb} {i : Nat} {r : P2 × S2} (h : tb[i]? = some r) (p : P2) : oq u d tb (i + 1) p ↔ oq u d tb i p ∨ ot u d tb r tb.length p := by
 unfold oq ot
 rw [List.take_succ, h, List.take_length]
 constructor
 ·rintro ⟨r', hr, x⟩
  rcases List.mem_append.mp hr with z | z
  ·exact .inl ⟨r', z, x⟩
  ·obtain rfl : r' = r := by simpa using z
   exact .inr x
 ·rintro (⟨r', hr, x⟩ | x)
  ·exact ⟨r', List.mem_append_left _ hr, x⟩
  ·exact ⟨r, List.mem_append_right _ (by simp), x⟩
theorem Ib {u d : Int} {tb : Tb} {j : Nat} {r s : P2 × S2} (h : tb[j]? = some s) (p : P2) : ot u d tb r (j + 1) p ↔ ot u d tb r j p ∨ (iK u d r s /\ p = (min r.1.1 s.1.1, max r.1.1 s.1.1)) := by
 unfold ot
 rw [List.take_succ, h]
 constructor
 ·rintro ⟨r', hr, x⟩
  rcases List.mem_append.mp hr with z | z
  ·exact .inl ⟨r', z, x⟩
  ·obtain rfl : r' = s := by simpa using z
   exact .inr x
 ·rintro (⟨r', hr, x⟩ | x)
  ·exact ⟨r', List.mem_append_left _ hr, x⟩
  ·exact ⟨s, List.mem_append_right _ (by simp), x⟩
noncomputable def Q5 (K : PySem.W.Frag) : Sp := fun vs H Q _ => ∃ (b w : Addr) (e t u d m f : Int) (tb : Tb), vs = [.ref b, .ref w] /\ ai K H b (dZ e t u d m f) /\ f6 e t u d m f /\ TabAt H w tb /\ bR e t tb /\ tb.length <= 60 /\ ∀ l ys ks H', aj H H' -> H l = none -> H' l = some (.lst ys) -> ks.Nodup -> (∀ p, p ∈ ks ↔ fu u d tb p) -> ak (aW H') ys (gR ks) -> Q (.ref l) H'
noncomputable def Ic (G H3 : Hp) (b w p : Addr) (X : P2 -> Prop) (e3 e4 : Option V) (σ : St) (H4 : Hp) : Prop := ∃ (ks : List P2), σ = [some (.ref b), some (.ref w), some (.ref p), e3, e4] /\ aj G H4 /\ SameBut p H3 H4 /\ H4 p = some (.dT (ks.map eV)) /\ ks.Nodup /\ (∀ q, q ∈ ks ↔ X q)
theorem Ie {H : Hp} : ∀ {ys : List V} {ks : List P2}, dQ H ys (ks.map eV) -> ak (aW H) ys ks
 | [], [], _ => trivial
 | _ :: _, _ :: _, h => ⟨h.1, Ie h.2⟩
 | [], _ :: _, h => h.elim
 | _ :: _, [], h => h.elim
theorem Q6 (T : Tx K mg) : aL P w K mg base (aM P w) 3 T.jr T.vV ["_law_shape_here", "_law_told_here"] (Q5 K) := by
 refine okN T.nY uD (fun vs H Q E h => ?_) (fun aD A outer s H vs Q E hr h => ?_)
 ·obtain ⟨b, w, e, t, u, d, m, f, tb, rfl, _⟩ := h
  rfl
 ·obtain ⟨b, w, e, t, u, d, m, f, tb, rfl, hb, sh, hT, ag, Aa, q⟩ := h
  refine ⟨_, (ao (aF (i := 2) uD.nd rfl (Or.inl rfl) yQ)
  (ao (MY (c9 PassesOwn.never rfl (FO (pv 1)) (bz (i := 3) uD.nd rfl (Or.inl rfl)) (ax (c9 PassesOwn.never rfl (FO (pv 1)) (bz (i := 4) uD.nd rfl (Or.inl rfl)) (ax (bc (ed (aG (QW T) (hr.mono (by decide)) rfl T.Ha T.nX.kp T.vU .nil aC (aa (pv 0) (aa (pv 1) (aa (pv 3) (aa (pv 4) ah)))))) (ax (sx (cL hr) (pv 2) (bH (aa (bX (o6 rfl) (by rfl) T.ju jP (aa (au az (pv 3) ae (fun _ _ => rfl)) (aa (au az (pv 4) ae (fun _ _ => rfl)) ah))) (aa (bX (DA rfl) (by rfl) T.vY x8 (aa (au az (pv 3) ae (fun _ _ => rfl)) (aa (au az (pv 4) ae (fun _ _ => rfl)) ah))) ah))) k6 rfl)) bf))))))
  (ax (aV (bX Ft (by rfl) T.qZ sF (aa (xR (yM rfl) (by rfl) T.qY sH (aa (pv 2) ah)) ah)))))), ?_⟩
  obtain ⟨he, ht, ⟨u1, u2⟩, ⟨d1, d2⟩, -, hf⟩ := id sh
  have Ig : ∀ (X : P2 -> Prop) (ks : List P2), ks.Nodup -> (∀ q, q ∈ ks -> ∃ r ∈ tb, ∃ s ∈ tb, q = (min r.1.1 s.1.1, max r.1.1 s.1.1)) -> ks.length <= 49 := fun X ks hn hq => by
   refine HZ ks Ia hn fun x hx => ?_
   obtain ⟨r, hr, s, hs, rfl⟩ := hq x hx
   obtain ⟨⟨_, _⟩, _, _⟩ := ag.2 r hr
   obtain ⟨⟨_, _⟩, _, _⟩ := ag.2 s hs
   refine Q0 ⟨?_, ?_⟩ ⟨?_, ?_⟩
   ·show 0 <= min r.1.1 s.1.1; omega
   ·show min r.1.1 s.1.1 < 7; omega
   ·show 0 <= max r.1.1 s.1.1; omega
   ·show max r.1.1 s.1.1 < 7; omega
  refine aO (fun σ H1 => ∃ p, σ = [some (.ref b), some (.ref w), some (.ref p), none, none] /\ aj H H1 /\ H p = none /\ H1 p = some (.dT [])) (fun N hN => ?_) ?_
  ·walk_at "gzn"
   exact fun p hp => hN _ _ ⟨p, rfl, aB hp, hp, aw⟩
  rintro σ H1 ⟨p, rfl, s1, fl, hl⟩
  obtain ⟨kvs, kP, hA⟩ := id hT
  have kN := s1 _ _ kP
  refine aO (fun σ H2 => ∃ (ks : List P2) (e3 e4 : Option V), σ = [some (.ref b), some (.ref w), some (.ref p), e3, e4] /\ aj H H2 /\ H2 p = some (.dT (ks.map eV)) /\ ks.Nodup /\ (∀ q, q ∈ ks ↔ fu u d tb q)) (fun N hN => ?_) ?_
  ·walk_at "gzn"
   refine ⟨w, kvs, kN, fun o => ⟨o, kvs, aw, fun kQ => ?_⟩⟩
   have Ih := hA.aJ kP (u := .aJ o (.dT kvs))
   have PT := (aK.aJ (hA.imp fun _ _ _ z => aQ.same z s1) kN (u := .aJ o (.dT kvs))).ql kQ
   have kl := PT.len
   rw [List.length_map] at kl
   have wl : p ≠ w := fun z => by rw [z, kP] at fl; cases fl
   have iJ : upd H1 w (.aJ o (.dT kvs)) p = some (.dT []) := by rw [ay wl]; exact hl
   have Ii : ai K (upd H w (.aJ o (.dT kvs))) b (dZ e t u d m f) := M5 kP hb
   have lG : upd H w (.aJ o (.dT kvs)) p = none := by rw [ay wl]; exact fl
   have wG : upd H w (.aJ o (.dT kvs)) w = some (.aJ o (.dT kvs)) := aw
   have sG : aj (upd H w (.aJ o (.dT kvs))) (upd H1 w (.aJ o (.dT kvs))) := fun b u h => by
    by_cases hb : b = w
    ·subst hb; rw [aw] at h ⊢; exact h
    ·rw [ay hb] at h ⊢; exact s1 _ _ h
   have Ij : ∀ H4, aj (upd H w (.aJ o (.dT kvs))) H4 -> aj H (upd H4 w (.dT kvs)) := fun H4 s4 => M0 kP s4
   generalize upd H1 w (.aJ o (.dT kvs)) = H3 at PT iJ sG kQ
   generalize upd H w (.aJ o (.dT kvs)) = G at Ih Ii lG wG sG Ij
   refine FP (xs := eR o) (fun i σ H4 => ∃ e3 e4, Ic G H3 b w p (oq u d tb i) e3 e4 σ H4) rfl (by rw [kl, hA.len]) ⟨_, _, [], rfl, sG, fun _ _ _ z => z, iJ, List.nodup_nil, fun q => ⟨fun z => (nomatch z), fun ⟨r, hr, _⟩ => by simp at hr⟩⟩ ?_ ?_ ?_
   ·rintro i σ H4 _ ⟨e3, e4, ks, _, s4, _⟩
    exact s4 _ _ wG
   ·rintro i v σ H4 hv ⟨e3, e4, ks, rfl, s4, sb, kL, cE, gQ⟩
    obtain ⟨s0, rC, ka, rfl, g8⟩ := PT.get hv
    rw [List.getElem?_map] at rC
    obtain ⟨r, hr, rfl⟩ := Option.map_eq_some_iff.mp rC
    have kR := List.mem_of_getElem? hr
    walk_at "gzn"
    refine ⟨o, kvs, s4 _ _ wG, fun Xt => FP (xs := eR o) (fun j σ H5 => ∃ e4, Ic G H3 b w p (fun q => oq u d tb i q ∨ ot u d tb r j q) (some (.ref ka)) e4 σ H5) rfl (by rw [kl, hA.len]) ⟨_, ks, rfl, s4, sb, kL, cE, fun q => ?_⟩ ?_ ?_ ?_⟩
    ·rw [gQ q]
     exact ⟨.inl, fun z => z.elim id fun ⟨s, hs, _⟩ => by simp at hs⟩
    ·rintro j σ H5 _ ⟨e4, ks, _, s5, _⟩
     exact s5 _ _ wG
    ·rintro j v σ H5 hv ⟨e4, ks, rfl, s5, ou, kM, rD, rE⟩
     obtain ⟨s0, rC, kb, rfl, hkb⟩ := PT.get hv
     rw [List.getElem?_map] at rC
     obtain ⟨ss, hss, rfl⟩ := Option.map_eq_some_iff.mp rC
     have sin := List.mem_of_getElem? hss
     have Ai := ou ka _ (fun z => by rw [z, iJ] at g8; cases g8) g8
     have Aj := ou kb _ (fun z => by rw [z, iJ] at hkb; cases hkb) hkb
     walk_at "gzn"
     refine ⟨b, w, ka, kb, e, t, u, d, m, f, o, kvs, tb, r, ss, rfl, s5.seq Ii, sh, s5 _ _ wG, Ih.imp fun _ _ _ z => aQ.same z s5, ag, kR, sin, Ai, Aj, ⟨_, rfl, bC (fun hc => ?_) fun hc => ?_⟩⟩
     ·have Q7 := HY.mp hc
      walk_at "gzn"
      refine aI (ar.of Ai) (v := .int r.1.1) rfl (aI (ar.of Aj) (v := .int ss.1.1) rfl ⟨_, rfl, _, rfl, aI (ar.of Ai) (v := .int r.1.1) rfl (aI (ar.of Aj) (v := .int ss.1.1) rfl ⟨_, rfl, _, rfl, bQ, fun kk zf => ?_⟩)⟩)
      have e1 : (if ss.1.1 < r.1.1 then ss.1.1 else r.1.1) = min r.1.1 ss.1.1 := by omega
      have e2 : (if ss.1.1 > r.1.1 then ss.1.1 else r.1.1) = max r.1.1 ss.1.1 := by omega
      rw [e1, e2]
      have up := aB (o := .tup [.int (min r.1.1 ss.1.1), .int (max r.1.1 ss.1.1)]) zf
      have kp : upd H5 kk (.tup [.int (min r.1.1 ss.1.1), .int (max r.1.1 ss.1.1)]) kk = some (.tup [.int (min r.1.1 ss.1.1), .int (max r.1.1 ss.1.1)]) := aw
      have l6 := up _ _ kM
      generalize upd H5 kk (.tup [.int (min r.1.1 ss.1.1), .int (max r.1.1 ss.1.1)]) = H6 at up kp l6
      have Xu := Ig (fun _ => True) ks rD fun q hq => by
       rcases (rE q).mp hq with ⟨r', rg, s', mf, _, e⟩ | ⟨s', mf, _, e⟩
       ·exact ⟨r', List.mem_of_mem_take rg, s', mf, e⟩
       ·exact ⟨r, kR, s', List.mem_of_mem_take mf, e⟩
      refine ⟨_, eI.t (k := aH (min r.1.1 ss.1.1) (max r.1.1 ss.1.1)) l6 kp (Nat.lt_of_le_of_lt (by rw [List.length_map]; omega : _ <= 49) (by decide)), _, kU ks (min r.1.1 ss.1.1, max r.1.1 ss.1.1), rfl, jR lG (s5.trans up), fun b o hb h => by rw [ay hb]; exact up _ _ (ou b o hb h), ?_, Q2 rD, fun q => ?_⟩
      ·rw [aw]
       exact congrArg (fun z => some (HO.dT z)) (Q3 ks (min r.1.1 ss.1.1, max r.1.1 ss.1.1))
      ·rw [Q1, rE q]
       dsimp only
       rw [Ib hss]
       constructor
       ·rintro ((z | z) | z)
        ·exact .inl z
        ·exact .inr (.inl z)
        ·exact .inr (.inr ⟨Q7, z⟩)
       ·rintro (z | z | ⟨_, z⟩)
        ·exact .inl (.inl z)
        ·exact .inl (.inr z)
        ·exact .inr z
     ·refine ⟨_, ks, rfl, s5, ou, kM, rD, fun q => ?_⟩
      rw [rE q]
      dsimp only
      rw [Ib hss]
      constructor
      ·rintro (z | z)
       ·exact .inl z
       ·exact .inr (.inl z)
      ·rintro (z | z | ⟨z, _⟩)
       ·exact .inl z
       ·exact .inr z
       ·exact absurd (HY.mpr z) hc
    ·rintro σ H5 ⟨e4, ks, rfl, s5, ou, kM, rD, rE⟩
     refine ⟨_, _, ks, rfl, s5, ou, kM, rD, fun q => ?_⟩
     rw [rE q, Q4 hr, show (eR o).length = tb.length from kl]
   ·rintro σ H4 ⟨e3, e4, ks, rfl, s4, sb, kL, cE, gQ⟩
    have w4 := s4 _ _ wG
    refine ⟨w4, hN _ _ ⟨ks, e3, e4, rfl, Ij _ s4, by rw [ay wl]; exact kL, cE, fun q => ?_⟩⟩
    rw [gQ q, show (eR o).length = tb.length from kl]
    unfold oq fu
    rw [List.take_length]
  rintro σ H2 ⟨ks, e3, e4, rfl, s2, bP, cE, gQ⟩
  have kl := Ig (fun _ => True) ks cE fun q hq => by
   obtain ⟨r, hr, s, hs, _, e⟩ := (gQ q).mp hq
   exact ⟨r, hr, s, hs, e⟩
  walk_at "gzn"
  refine ⟨_, bP, fun l ys hl g8 => ?_⟩
  have P0 := Ie g8
  have u5 := aB (o := .lst ys) hl
  refine ⟨ys, ai.of aw, fy ks, z0 (P0.imp fun _ _ r => aW.same r u5), by have := P0.len; omega, fun l2 bP => ?_⟩
  have u6 := aB (o := .lst (bJ (fy ks) V.non ys)) bP
  exact q l2 _ ks _ (s2.trans (u5.trans u6)) ((s2.trans u5).free bP) aw cE gQ (ak.sort (P0.imp fun _ _ r => aW.same r (u5.trans u6)))
end
section
seal L2.PE L2.PS L2.bo L2.PA
variable {P : Program} {w : World} {K : PySem.W.Frag} {mg : Str -> Option Value} {base : Heap}
theorem Ik (ps : List P2) : Gd 2 (.list (ps.map E3)) := .lst fun d hd => by
 obtain ⟨r, _, rfl⟩ := List.mem_map.mp hd
 refine .tup fun d hd => ?_
 simp only [List.mem_cons, List.not_mem_nil, or_false] at hd
 rcases hd with rfl | rfl
 ·exact (Gd.int _).up (by decide)
 ·exact (Gd.int _).up (by decide)
noncomputable def Q8 (K : PySem.W.Frag) (B : Addr) : Sp := fun vs H Q _ => ∃ (x b w p : Addr) (e t u d m f : Int) (tb rs : Tb), vs = [.ref x, .ref b, .ref w] /\ ai K H b (dZ e t u d m f) /\ f6 e t u d m f /\ TabAt H w tb /\ cR B H x e t u d m p rs /\ rs.Perm tb /\ bR e t tb /\ tb.length <= 60 /\ ∀ H', aj H H' -> Q (.bl true) H'
theorem Il (T : Tx K mg) : aL P w K mg base (aM P w) 6 T.jt T.vX ["_law_board_here", "_law_shape_here", "_law_told_here"] (Q8 K T.aE) := by
 refine okN T.kD uE (fun vs H Q E h => ?_) (fun aD A outer s H vs Q E hr h => ?_)
 ·obtain ⟨x, b, w, p, e, t, u, d, m, f, tb, rs, rfl, _⟩ := h
  rfl
 ·obtain ⟨x, b, w, p, e, t, u, d, m, f, tb, rs, rfl, hb, sh, hT, hB, bK, ag, Aa, q⟩ := h
  refine ⟨_, (ao (aF (i := 3) uE.nd rfl (Or.inl rfl) (aG (Q6 T) (hr.mono (by decide)) rfl T.Hb T.nY.kp T.vW .nil aC (aa (pv 1) (aa (pv 2) ah))))
  (ao (aF (i := 4) uE.nd rfl (Or.inl rfl) (aG (HC T) (hr.mono (by decide)) rfl T.zJ T.kz.kp T.qH .nil aC (aa (pv 0) ah)))
  (ao (bc (PW.pt (ee (eY (ed (bX sI (by rfl) T.qX sE (aa (pv 4) (aa (rS (v := .ty "list") rfl T.qY sH rfl) ah))))) (gf (bN (LF hr.units) (pv 4) (pv 3) (bp _))))) (ax (aV k6)) bf)
  (ao (c9 PassesOwn.never rfl (fb (pv 4)) (bz (i := 5) uE.nd rfl (Or.inl rfl)) (ax (bc (PW.pt (ee (eY (ed (bX sI (by rfl) T.qX sE (aa (pv 5) (aa (rS (v := .ty "tuple") rfl T.Hf K4 rfl) ah))))) (ee (eY (ed (aG (Hq T) (hr.mono (by decide)) rfl T.zL T.kC.kp T.qT .nil aC (aa (au az (pv 5) ae (fun _ _ => rfl)) ah)))) (gf (eY (ed (aG (Hq T) (hr.mono (by decide)) rfl T.zL T.kC.kp T.qT .nil aC (aa (au az (pv 5) ae (fun _ _ => rfl)) ah)))))))) (ax (aV k6)) bf)))
  (ao (dE (DU PySem.F.plainAttrs_list PySem.F.slot_list_clear PySem.F.type_list_clear Kp (pv 4)))
  (ax (aV (ly (EI hr.units) (aG (HC T) (hr.mono (by decide)) rfl T.zJ T.kz.kp T.qH .nil aC (aa (pv 0) ah)) (pv 3) (bp _))))))))), ?_⟩
  obtain ⟨he, ht, ⟨u1, u2⟩, ⟨d1, d2⟩, -, hf⟩ := id sh
  have kS : (rs.map (·.1)).Nodup := (bK.map _).nodup_iff.mpr ag.1
  have oj : bR e t rs := ⟨kS, fun r hr => ag.2 r (bK.mem_iff.mp hr)⟩
  have rl := bK.length_eq
  refine aO (fun σ H1 => ∃ (g : Addr) (ys : List V) (ks : List P2), σ = [some (.ref x), some (.ref b), some (.ref w), some (.ref g), none, none] /\ aj H H1 /\ H1 g = some (.lst ys) /\ ks.Nodup /\ (∀ p, p ∈ ks ↔ fu u d tb p) /\ ak (aW H1) ys (gR ks)) (fun N hN => ?_) ?_
  ·walk_at "gzn"
   exact ⟨b, w, e, t, u, d, m, f, tb, rfl, hb, sh, hT, ag, Aa, fun g ys ks H1 s1 _ hg hn hm hp => hN _ _ ⟨g, ys, ks, rfl, s1, hg, hn, hm, hp⟩⟩
  rintro σ H1 ⟨g, ys, ks, rfl, s1, hg, kn, km, kp⟩
  have Im : ∀ {gT : List P2}, gT.Nodup -> (∀ p, p ∈ gT ↔ fu u d rs p) -> gR gT = gR ks := fun hn hm => Ot hn kn fun p => (hm p).trans ((Oq bK p).trans (km p).symm)
  refine aO (fun σ H2 => ∃ (l : Addr) (zs : List V), σ = [some (.ref x), some (.ref b), some (.ref w), some (.ref g), some (.ref l), none] /\ aj H1 H2 /\ H1 l = none /\ H2 l = some (.lst zs) /\ ak (aW H2) zs (gR ks)) (fun N hN => ?_) ?_
  ·walk_at "gzn"
   refine ⟨x, p, e, t, u, d, m, rs, rfl, hB.same s1, oj, by omega, by omega, he.2, ht.1, ht.2, u1, d1, fun l zs gT H2 s2 fl hl hn hm hp => hN _ _ ⟨l, zs, rfl, s2, fl, hl, ?_⟩⟩
   rw [<- Im hn hm]; exact hp
  rintro σ H2 ⟨l, zs, rfl, s2, fl, hl, hz⟩
  refine aO (fun σ H3 => σ = [some (.ref x), some (.ref b), some (.ref w), some (.ref g), some (.ref l), none] /\ H3 = H2) (fun N hN => ?_) ?_
  ·walk_at "gzn"
   refine K7 hl ?_
   walk_at "gzn"
   refine yU (.lst (ai.of hl) (cc.dat hz)) (.lst (ai.of (s2 _ _ hg)) (cc.dat (kp.imp fun _ _ r => aW.same r s2))) (Ik _) (by decide) ?_
   walk_at "gzn"
   exact hN _ _ ⟨rfl, rfl⟩
  rintro σ H3 ⟨rfl, rfl⟩
  refine aO (fun σ H4 => ∃ e5, σ = [some (.ref x), some (.ref b), some (.ref w), some (.ref g), some (.ref l), e5] /\ H4 = H3) (fun N hN => ?_) ?_
  ·walk_at "gzn"
   refine ⟨⟨_, ai.of hl⟩, lO (xs := zs) (fun _ σ H4 => ∃ e5, σ = [some (.ref x), some (.ref b), some (.ref w), some (.ref g), some (.ref l), e5] /\ H4 = H3) ⟨_, rfl, rfl⟩ ?_ ?_ (fun σ H' h => hN _ _ h)⟩
   ·rintro i σ H4 _ ⟨_, _, rfl⟩
    exact ai.of hl
   ·rintro i v σ H4 hv ⟨_, rfl, rfl⟩
    obtain ⟨pp, _, ta, rfl, hta⟩ := hz.get hv
    walk_at "gzn"
    refine K6 hta ?_
    walk_at "gzn"
    refine aI (ar.of hta) (v := .int pp.1) rfl ⟨_, rfl, .inr ⟨_, rfl⟩, ⟨true, rfl, ?_⟩⟩
    rw [if_neg (by decide)]
    refine aI (ar.of hta) (v := .int pp.2) rfl ⟨_, rfl, .inr ⟨_, rfl⟩, ⟨true, rfl, ?_⟩⟩
    rw [if_neg (by decide)]
  rintro σ H4 ⟨e5, rfl, rfl⟩
  refine aO (fun σ H5 => ∃ e5, σ = [some (.ref x), some (.ref b), some (.ref w), some (.ref g), some (.ref l), e5] /\ aj H1 H5) (fun N hN => ?_) ?_
  ·walk_at "gzn"
   exact ⟨.inl ⟨rfl, _, ai.of hl⟩, ⟨_, _, rfl, rfl, hl, hN _ _ ⟨_, rfl, jR fl s2⟩⟩⟩
  rintro σ H5 ⟨e5, rfl, s5⟩
  have S5 := s1.trans s5
  walk_at "gzn"
  refine ⟨x, p, e, t, u, d, m, rs, rfl, hB.same S5, oj, by omega, by omega, he.2, ht.1, ht.2, u1, d1, fun l zs gT H6 s6 _ rh hn hm hp => ?_⟩
  rw [Im hn hm] at hp
  exact yU (.lst (ai.of rh) (cc.dat hp)) (.lst (ai.of (s6 _ _ (s5 _ _ hg))) (cc.dat (kp.imp fun _ _ r => aW.same r (s5.trans s6)))) (Ik _) (by decide) (q _ (S5.trans s6))
end
section
seal L2.PE L2.PS L2.bo L2.PA
variable {P : Program} {w : World} {K : PySem.W.Frag} {mg : Str -> Option Value} {base : Heap}
noncomputable def wA (K : PySem.W.Frag) : Sp := fun vs H Q _ => ∃ (a : Addr) (ns : List Int), vs = [.ref a] /\ ai K H a (ns.map V.int) /\ dP ns /\ ∀ H', Q (.bl true) H'
theorem Q9 (T : Tx K mg) : aL P w K mg base (aM P w) 7 T.fX T.qV ["_law_script"] (wA K) := by
 refine okN T.qW qE (fun vs H Q E h => ?_) (fun aD A outer s H vs Q E hr h => ?_)
 ·obtain ⟨a, ns, rfl, _⟩ := h
  rfl
 ·obtain ⟨a, ns, rfl, hS, hn, q⟩ := h
  refine ⟨_, (ao (aF (i := 1) qE.nd rfl (Or.inl rfl) (aG (Qp T) (hr.mono (by decide)) rfl T.G3 T.nP.kp T.vE .nil aC (aa (pv 0) ah)))
  (ao (aF (i := 2) qE.nd rfl (Or.inl rfl) (aG (Qs T) (hr.mono (by decide)) rfl T.G4 T.nQ.kp T.vG .nil aC (aa (pv 0) (aa (pv 1) ah))))
  (ao (aF (i := 3) qE.nd rfl (Or.inl rfl) (aG (Qx T) (hr.mono (by decide)) rfl T.G5 T.nR.kp T.vJ .nil aC (aa (pv 0) (aa (pv 1) (aa (pv 2) ah)))))
  (ao (aF (i := 4) qE.nd rfl (Or.inl rfl) (aG (QD T) (hr.mono (by decide)) rfl T.G6 T.nT.kp T.vL .nil aC (aa (pv 0) (aa (pv 1) (aa (pv 3) ah)))))
  (ao (bc (eY (ed (aG (Il T) (hr.mono (by decide)) rfl T.zM T.kD.kp T.qU .nil aC (aa (pv 4) (aa (pv 1) (aa (pv 3) ah)))))) (ax (aV k6)) bf)
  (ao (dE (aG (QJ T) (hr.mono (by decide)) rfl T.G8 T.nV.kp T.vQ .nil aC (aa (pv 0) (aa (pv 1) (aa (pv 2) (aa (pv 3) (aa (pv 4) ah)))))))
  (ax (aV (k7 (aG (Il T) (hr.mono (by decide)) rfl T.zM T.kD.kp T.qU .nil aC (aa (pv 4) (aa (pv 1) (aa (pv 3) ah)))) (oK (aG (QR T) (hr.mono (by decide)) rfl T.G7 T.nU.kp T.vO .nil aC (aa (pv 4) (aa (pv 3) ah))))))))))))), ?_⟩
  refine aO (fun σ H1 => ∃ (b : Addr) (e t u d m f : Int), σ = [some (.ref a), some (.ref b), none, none, none] /\ aj H H1 /\ H1 b = some (.lst (dZ e t u d m f)) /\ f6 e t u d m f) (fun N hN => ?_) ?_
  ·walk_at "gzn"
   exact ⟨a, ns, rfl, hS, hn, fun b e t u d m f H1 s1 _ hb sh => hN _ _ ⟨b, e, t, u, d, m, f, rfl, s1, hb, sh⟩⟩
  rintro σ H1 ⟨b, e, t, u, d, m, f, rfl, s1, hb, sh⟩
  refine aO (fun σ H2 => ∃ (c : Addr) (cs : List Int), σ = [some (.ref a), some (.ref b), some (.ref c), none, none] /\ aj H1 H2 /\ H2 c = some (.lst (cs.map V.int)) /\ cs.length = t.toNat) (fun N hN => ?_) ?_
  ·walk_at "gzn"
   exact ⟨a, b, ns, e, t, u, d, m, f, rfl, s1.seq hS, hn, ai.of hb, sh, fun c cs H2 s2 _ hc dq _ => hN _ _ ⟨c, cs, rfl, s2, hc, dq⟩⟩
  rintro σ H2 ⟨c, cs, rfl, s2, hc, dq⟩
  refine aO (fun σ H3 => ∃ (w : Addr) (tb : Tb), σ = [some (.ref a), some (.ref b), some (.ref c), some (.ref w), none] /\ aj H2 H3 /\ TabAt H3 w tb /\ bR e t tb /\ tb.length <= 24 /\ ∀ r ∈ tb, bg r.2.1 r.2.2 = false) (fun N hN => ?_) ?_
  ·walk_at "gzn"
   exact ⟨a, b, c, ns, cs, e, t, u, d, m, f, rfl, (s1.trans s2).seq hS, hn, ai.of (s2 _ _ hb), sh, ai.of hc, dq, fun w tb H3 s3 fw hT ag rn d6 => hN _ _ ⟨w, tb, rfl, s3, hT, ag, rn, d6⟩⟩
  rintro σ H3 ⟨w, tb, rfl, s3, hT, ag, rn, d6⟩
  have S3 := s1.trans (s2.trans s3)
  have b3 := (s2.trans s3) _ _ hb
  have c3 := s3 _ _ hc
  refine aO (fun σ H4 => ∃ (x p : Addr) (rs : Tb), σ = [some (.ref a), some (.ref b), some (.ref c), some (.ref w), some (.ref x)] /\ aj H3 H4 /\ H3 p = none /\ cR T.aE H4 x e t u d m p rs /\ rs.Perm tb) (fun N hN => ?_) ?_
  ·walk_at "gzn"
   refine ⟨a, b, w, ns, e, t, u, d, m, f, tb, rfl, S3.seq hS, hn, ai.of b3, sh, hT, ag, by omega, d6, fun x p rs H4 s4 fx fp hB oi => hN _ _ ⟨x, p, rs, rfl, s4, fp, hB, ?_⟩⟩
   rcases oi with rfl | rfl
   ·exact .refl _
   ·exact List.reverse_perm _
  rintro σ H4 ⟨x, p, rs, rfl, s4, fp, hB, bK⟩
  have wp : w ≠ p := hT.ne fp
  refine aO (fun σ H6 => σ = [some (.ref a), some (.ref b), some (.ref c), some (.ref w), some (.ref x)] /\ aj H4 H6) (fun N hN => ?_) ?_
  ·walk_at "gzn"
   refine ⟨x, b, w, p, e, t, u, d, m, f, tb, rs, rfl, ai.of (s4 _ _ b3), sh, hT.same s4, hB, bK, ag, by omega, fun H6 s6 => ?_⟩
   walk_at "gzn"
   exact hN _ _ ⟨rfl, s6⟩
  rintro σ H6 ⟨rfl, s6⟩
  have rF := s4.trans s6
  have T6 := hT.same rF
  have B6 := hB.same s6
  refine aO (fun σ H7 => ∃ (bB f7 : Tb), σ = [some (.ref a), some (.ref b), some (.ref c), some (.ref w), some (.ref x)] /\ cY [w, p] H6 H7 /\ TabAt H7 w bB /\ cR T.aE H7 x e t u d m p f7 /\ f7.Perm bB /\ bR e t bB /\ bB.length <= 25) (fun N hN => ?_) ?_
  ·walk_at "gzn"
   exact ⟨a, b, c, w, x, p, ns, cs, e, t, u, d, m, f, tb, rs, rfl, (S3.trans rF).seq hS, hn, ai.of (rF _ _ b3), sh, ai.of (rF _ _ c3), dq, T6, B6, wp, bK, ag, by omega, d6, fun bB f7 H7 bu wB wC wD wF Ra _ => hN _ _ ⟨bB, f7, rfl, bu, wB, wC, wD, wF, by omega⟩⟩
  rintro σ H7 ⟨bB, f7, rfl, bu, wB, wC, wD, wF, Ra⟩
  have F : Fr H6 H7 := cY.fr bu fun q hq => by
   have eo : q = w ∨ q = p := by simpa using hq
   rcases eo with rfl | rfl
   ·exact T6.Fy
   ·exact B6.tb.Fy
  have b7 : H7 b = some (.lst (dZ e t u d m f)) := F b (.lst (dZ e t u d m f)) (fun _ z => nomatch z) (rF _ _ b3)
  walk_at "gzn"
  refine ⟨x, b, w, p, e, t, u, d, m, f, bB, f7, rfl, ai.of b7, sh, wB, wC, wD, wF, by omega, fun H8 s8 => ?_⟩
  walk_at "gzn"
  exact ⟨x, p, w, e, t, u, d, m, bB, f7, rfl, wC.same s8, wB.same s8, wF, wD, by omega, fun H9 s9 => q _⟩
end
theorem Rb {l : PySem.W.OpenLaw} {w : World} {K : PySem.W.Frag} {h : Heap} {mg : Str -> Option Value} {fa : Addr} (X : K.In h) (G : h.Ns mainGlobals mg) (Rc : mg "law" = some (.ref fa))
 {wH : Addr} {Rf Rg : Option Addr} {Rh : Array (Option Value)} {Ri Rj Rk Rl Io Rm : Value}
 {wI : Addr} {Rn Ro : Option Addr} {Rp : Array (Option Value)} {Rq Rr Rt Ru Ip Rv : Value}
 {wJ : Addr} {Rw Rx : Option Addr} {Ry : Array (Option Value)} {Rz RA RB RC Iq RD : Value}
 {wK : Addr} {RE RF : Option Addr} {RG : Array (Option Value)} {RH RI RJ RK Ir RL : Value}
 {wL : Addr} {RM RN : Option Addr} {RO : Array (Option Value)} {RP RQ RS RT Iu RU : Value}
 {wM : Addr} {RV RW : Option Addr} {RX : Array (Option Value)} {RY RZ R0 R1 Iv R4 : Value}
 {wN : Addr} {R5 R6 : Option Addr} {R7 : Array (Option Value)} {R8 R9 Sa Sb Iw Sd : Value}
 {wO : Addr} {Se Sf : Option Addr} {Sg : Array (Option Value)} {Sh Si Sj Sk Iy Sl : Value}
 {wQ : Addr} {Sm Sn : Option Addr} {So : Array (Option Value)} {Sq Sr Ss Su Iz Sv : Value}
 {wR : Addr} {Sw Sx : Option Addr} {Sy : Array (Option Value)} {Sz SA SD SE IA SF : Value}
 {wU : Addr} {SG SH : Option Addr} {SJ : Array (Option Value)} {SK SM SN SO IB SQ : Value}
 {wV : Addr} {SR SU : Option Addr} {SV : Array (Option Value)} {SW SX SY S0 IC S6 : Value}
 {wW : Addr} {S7 S8 : Option Addr} {S9 : Array (Option Value)} {Tc Td Te Tf ID Tg : Value}
 {wX : Addr} {Th Ti : Option Addr} {Tj : Array (Option Value)} {Tn To Tp Tq IE Tr : Value}
 {wY : Addr} {Ts Tt : Option Addr} {Tu : Array (Option Value)} {Tv Tw Tz TB IF TC : Value}
 {rG : Addr} {TF TH : Option Addr} {TJ : Array (Option Value)} {TK TL TM TN IG TQ : Value}
 {rH : Addr} {TR TU : Option Addr} {TV : Array (Option Value)} {TX TY TZ T4 IH T5 : Value}
 {rJ : Addr} {T7 T8 : Option Addr} {T9 : Array (Option Value)} {Ua Ub Uc Ud II Ue : Value}
 {rK : Addr} {Ug Uh : Option Addr} {Ui : Array (Option Value)} {Uj Uk Ul Um IJ Uo : Value}
 {rL : Addr} {Up Uq : Option Addr} {Ur : Array (Option Value)} {Us Ut Uu Uv IK Uw : Value}
 {rM : Addr} {Ux Uy : Option Addr} {Uz : Array (Option Value)} {UA UB UC UD IL UE : Value}
 {rN : Addr} {UG UH : Option Addr} {UI : Array (Option Value)} {UJ UK UL UM IM UN : Value}
 {rO : Addr} {UO UP : Option Addr} {UQ : Array (Option Value)} {UR US UT UU IP UW : Value}
 {wZ : Addr} {UX UY : Option Addr} {UZ : Array (Option Value)} {U0 U1 U2 U3 IQ U4 : Value}
 {w5 : Addr} {U5 U6 : Option Addr} {U7 : Array (Option Value)} {U8 U9 Va Vb IS Vc : Value}
 {w6 : Addr} {Vd Ve : Option Addr} {Vf : Array (Option Value)} {Vg Vh Vi Vj IT Vk : Value}
 {w9 : Addr} {Vl Vm : Option Addr} {Vn : Array (Option Value)} {Vo Vp Vq Vr IU Vs : Value}
 {xa : Addr} {Vt Vu : Option Addr} {Vv : Array (Option Value)} {Vw Vx Vy Vz IV VA : Value}
 {xb : Addr} {VB VC : Option Addr} {VD : Array (Option Value)} {VE VF VG VH IW VI : Value}
 {xf : Addr} {VJ VL : Option Addr} {VM : Array (Option Value)} {VN VO VP VQ IX VR : Value}
 {xg : Addr} {VS VT : Option Addr} {VU : Array (Option Value)} {VV VW VX VY IY VZ : Value}
 {xh : Addr} {V0 V1 : Option Addr} {V2 : Array (Option Value)} {V3 V4 V5 V6 IZ V7 : Value}
 {xi : Addr} {V8 V9 : Option Addr} {Wa : Array (Option Value)} {Wb Wc Wd We I0 Wf : Value}
 {xj : Addr} {Wg Wh : Option Addr} {Wi : Array (Option Value)} {Wj Wk Wl Wm I9 Wn : Value}
 {xk : Addr} {Wo Wq : Option Addr} {Wr : Array (Option Value)} {Ws Wt Wu Wv Ja Ww : Value}
 {xl : Addr} {Wx Wy : Option Addr} {Wz : Array (Option Value)} {WA WB WC WD Jb WE : Value}
 {xm : Addr} {WG WH : Option Addr} {WI : Array (Option Value)} {WJ WK WL WM Jc WN : Value}
 {Ak : Addr} {WO Al : Option Addr} {WQ : Array (Option Value)} {WR Am An Ao xn Ap : Value}
 {q8 : Addr}
 {dA : Addr}
 {cF : Addr}
 {dB : Addr}
 {aE : Addr}
 {WS : Tok}
 {WT : Tok}
 (iM : PySem.W.nsIn K mainGlobals "is_crossed" = some (some (.ref wH))) (Aq : K.lookup wH = some ⟨Ri, Rf, .func (PySem.W.fnOf "is_crossed" "is_crossed" (aT mE) (aP mE) (av mE) .none Rj Rk Rl Rg Io Rm), Rh⟩) (Ar : PySem.W.codeIn K Io "is_crossed" = true) (As : PySem.W.keepIn K (.ref wH) = true)
 (iN : PySem.W.nsIn K mainGlobals "meet" = some (some (.ref wI))) (Au : K.lookup wI = some ⟨Rq, Rn, .func (PySem.W.fnOf "meet" "meet" (aT mF) (aP mF) (av mF) .none Rr Rt Ru Ro Ip Rv), Rp⟩) (Av : PySem.W.codeIn K Ip "meet" = true) (Aw : PySem.W.keepIn K (.ref wI) = true)
 (iO : PySem.W.nsIn K mainGlobals "common" = some (some (.ref wJ))) (Ax : K.lookup wJ = some ⟨Rz, Rw, .func (PySem.W.fnOf "common" "common" (aT mG) (aP mG) (av mG) .none RA RB RC Rx Iq RD), Ry⟩) (Ay : PySem.W.codeIn K Iq "common" = true) (Az : PySem.W.keepIn K (.ref wJ) = true)
 (iP : PySem.W.nsIn K mainGlobals "lesser" = some (some (.ref wK))) (AA : K.lookup wK = some ⟨RH, RE, .func (PySem.W.fnOf "lesser" "lesser" (aT mH) (aP mH) (av mH) .none RI RJ RK RF Ir RL), RG⟩) (AB : PySem.W.codeIn K Ir "lesser" = true) (AD : PySem.W.keepIn K (.ref wK) = true)
 (iR : PySem.W.nsIn K mainGlobals "lifted" = some (some (.ref wL))) (AE : K.lookup wL = some ⟨RP, RM, .func (PySem.W.fnOf "lifted" "lifted" (aT mI) (aP mI) (av mI) .none RQ RS RT RN Iu RU), RO⟩) (AF : PySem.W.codeIn K Iu "lifted" = true) (AG : PySem.W.keepIn K (.ref wL) = true)
 (iS : PySem.W.nsIn K mainGlobals "ceilings" = some (some (.ref wM))) (AH : K.lookup wM = some ⟨RY, RV, .func (PySem.W.fnOf "ceilings" "ceilings" (aT mJ) (aP mJ) (av mJ) .none RZ R0 R1 RW Iv R4), RX⟩) (AI : PySem.W.codeIn K Iv "ceilings" = true) (AJ : PySem.W.keepIn K (.ref wM) = true)
 (iT : PySem.W.nsIn K mainGlobals "crossing" = some (some (.ref wN))) (AK : K.lookup wN = some ⟨R8, R5, .func (PySem.W.fnOf "crossing" "crossing" (aT mK) (aP mK) (av mK) .none R9 Sa Sb R6 Iw Sd), R7⟩) (AL : PySem.W.codeIn K Iw "crossing" = true) (AM : PySem.W.keepIn K (.ref wN) = true)
 (iU : PySem.W.nsIn K mainGlobals "has_part" = some (some (.ref wO))) (AN : K.lookup wO = some ⟨Sh, Se, .func (PySem.W.fnOf "has_part" "has_part" (aT mL) (aP mL) (av mL) .none Si Sj Sk Sf Iy Sl), Sg⟩) (AO : PySem.W.codeIn K Iy "has_part" = true) (AQ : PySem.W.keepIn K (.ref wO) = true)
 (iV : PySem.W.nsIn K mainGlobals "check_claim" = some (some (.ref wQ))) (AR : K.lookup wQ = some ⟨Sq, Sm, .func (PySem.W.fnOf "check_claim" "check_claim" (aT mM) (aP mM) (av mM) .none Sr Ss Su Sn Iz Sv), So⟩) (AS : PySem.W.codeIn K Iz "check_claim" = true) (AU : PySem.W.keepIn K (.ref wQ) = true)
 (iW : PySem.W.nsIn K mainGlobals "stretches_of" = some (some (.ref wR))) (AV : K.lookup wR = some ⟨Sz, Sw, .func (PySem.W.fnOf "stretches_of" "stretches_of" (aT mO) (aP mO) (av mO) .none SA SD SE Sx IA SF), Sy⟩) (AW : PySem.W.codeIn K IA "stretches_of" = true) (AX : PySem.W.keepIn K (.ref wR) = true)
 (iX : PySem.W.nsIn K mainGlobals "paces" = some (some (.ref wU))) (AY : K.lookup wU = some ⟨SK, SG, .func (PySem.W.fnOf "paces" "paces" (aT mP) (aP mP) (av mP) .none SM SN SO SH IB SQ), SJ⟩) (AZ : PySem.W.codeIn K IB "paces" = true) (A0 : PySem.W.keepIn K (.ref wU) = true)
 (iY : PySem.W.nsIn K mainGlobals "marks_of" = some (some (.ref wV))) (A1 : K.lookup wV = some ⟨SW, SR, .func (PySem.W.fnOf "marks_of" "marks_of" (aT mQ) (aP mQ) (av mQ) .none SX SY S0 SU IC S6), SV⟩) (A2 : PySem.W.codeIn K IC "marks_of" = true) (A3 : PySem.W.keepIn K (.ref wV) = true)
 (iZ : PySem.W.nsIn K mainGlobals "groups_of" = some (some (.ref wW))) (A4 : K.lookup wW = some ⟨Tc, S7, .func (PySem.W.fnOf "groups_of" "groups_of" (aT mR) (aP mR) (av mR) .none Td Te Tf S8 ID Tg), S9⟩) (A5 : PySem.W.codeIn K ID "groups_of" = true) (A6 : PySem.W.keepIn K (.ref wW) = true)
 (i0 : PySem.W.nsIn K mainGlobals "clashes" = some (some (.ref wX))) (A7 : K.lookup wX = some ⟨Tn, Th, .func (PySem.W.fnOf "clashes" "clashes" (aT mS) (aP mS) (av mS) .none To Tp Tq Ti IE Tr), Tj⟩) (A8 : PySem.W.codeIn K IE "clashes" = true) (A9 : PySem.W.keepIn K (.ref wX) = true)
 (i3 : PySem.W.nsIn K mainGlobals "quarrels" = some (some (.ref wY))) (Ba : K.lookup wY = some ⟨Tv, Ts, .func (PySem.W.fnOf "quarrels" "quarrels" (aT mT) (aP mT) (av mT) .none Tw Tz TB Tt IF TC), Tu⟩) (Bb : PySem.W.codeIn K IF "quarrels" = true) (Bc : PySem.W.keepIn K (.ref wY) = true)
 (i4 : PySem.W.findIn K (.ref aE) "__init__" = some (some (.ref rG))) (Be : K.lookup rG = some ⟨TK, TF, .func (PySem.W.fnOf "__init__" "Board.__init__" (aT mU) (aP mU) (av mU) .none TL TM TN TH IG TQ), TJ⟩) (Bf : PySem.W.codeIn K IG "Board.__init__" = true) (Bg : PySem.W.keepIn K (.ref rG) = true)
 (i5 : PySem.W.findIn K (.ref aE) "has_eye" = some (some (.ref rH))) (Bh : K.lookup rH = some ⟨TX, TR, .func (PySem.W.fnOf "has_eye" "Board.has_eye" (aT mV) (aP mV) (av mV) .none TY TZ T4 TU IH T5), TV⟩) (Bi : PySem.W.codeIn K IH "Board.has_eye" = true) (xo : PySem.W.keepIn K (.ref rH) = true)
 (i6 : PySem.W.findIn K (.ref aE) "has_turn" = some (some (.ref rJ))) (Bj : K.lookup rJ = some ⟨Ua, T7, .func (PySem.W.fnOf "has_turn" "Board.has_turn" (aT mW) (aP mW) (av mW) .none Ub Uc Ud T8 II Ue), T9⟩) (Bk : PySem.W.codeIn K II "Board.has_turn" = true) (xq : PySem.W.keepIn K (.ref rJ) = true)
 (i7 : PySem.W.findIn K (.ref aE) "tell" = some (some (.ref rK))) (Bl : K.lookup rK = some ⟨Uj, Ug, .func (PySem.W.fnOf "tell" "Board.tell" (aT mX) (aP mX) (av mX) .none Uk Ul Um Uh IJ Uo), Ui⟩) (Bm : PySem.W.codeIn K IJ "Board.tell" = true) (xr : PySem.W.keepIn K (.ref rK) = true)
 (i8 : PySem.W.findIn K (.ref aE) "hush" = some (some (.ref rL))) (Bn : K.lookup rL = some ⟨Us, Up, .func (PySem.W.fnOf "hush" "Board.hush" (aT mY) (aP mY) (av mY) .none Ut Uu Uv Uq IK Uw), Ur⟩) (Bo : PySem.W.codeIn K IK "Board.hush" = true) (xt : PySem.W.keepIn K (.ref rL) = true)
 (i9 : PySem.W.findIn K (.ref aE) "tellings" = some (some (.ref rM))) (Bp : K.lookup rM = some ⟨UA, Ux, .func (PySem.W.fnOf "tellings" "Board.tellings" (aT mZ) (aP mZ) (av mZ) .none UB UC UD Uy IL UE), Uz⟩) (Bq : PySem.W.codeIn K IL "Board.tellings" = true) (xu : PySem.W.keepIn K (.ref rM) = true)
 (ja : PySem.W.findIn K (.ref aE) "check_spot" = some (some (.ref rN))) (Br : K.lookup rN = some ⟨UJ, UG, .func (PySem.W.fnOf "check_spot" "Board.check_spot" (aT m5) (aP m5) (av m5) .none UK UL UM UH IM UN), UI⟩) (Bs : PySem.W.codeIn K IM "Board.check_spot" = true) (xx : PySem.W.keepIn K (.ref rN) = true)
 (jb : PySem.W.findIn K (.ref aE) "check_word" = some (some (.ref rO))) (Bu : K.lookup rO = some ⟨UR, UO, .func (PySem.W.fnOf "check_word" "Board.check_word" (aT m6) (aP m6) (av m6) .none US UT UU UP IP UW), UQ⟩) (Bv : PySem.W.codeIn K IP "Board.check_word" = true) (xy : PySem.W.keepIn K (.ref rO) = true)
 (jc : PySem.W.nsIn K mainGlobals "_law_pick" = some (some (.ref wZ))) (Bw : K.lookup wZ = some ⟨U0, UX, .func (PySem.W.fnOf "_law_pick" "_law_pick" (aT m7) (aP m7) (av m7) .none U1 U2 U3 UY IQ U4), UZ⟩) (Bx : PySem.W.codeIn K IQ "_law_pick" = true) (By : PySem.W.keepIn K (.ref wZ) = true)
 (jd : PySem.W.nsIn K mainGlobals "_law_wide" = some (some (.ref w5))) (Bz : K.lookup w5 = some ⟨U8, U5, .func (PySem.W.fnOf "_law_wide" "_law_wide" (aT m8) (aP m8) (av m8) .none U9 Va Vb U6 IS Vc), U7⟩) (BA : PySem.W.codeIn K IS "_law_wide" = true) (BB : PySem.W.keepIn K (.ref w5) = true)
 (jf : PySem.W.nsIn K mainGlobals "_law_shape" = some (some (.ref w6))) (BC : K.lookup w6 = some ⟨Vg, Vd, .func (PySem.W.fnOf "_law_shape" "_law_shape" (aT m9) (aP m9) (av m9) .none Vh Vi Vj Ve IT Vk), Vf⟩) (BD : PySem.W.codeIn K IT "_law_shape" = true) (BE : PySem.W.keepIn K (.ref w6) = true)
 (jg : PySem.W.nsIn K mainGlobals "_law_course" = some (some (.ref w9))) (BF : K.lookup w9 = some ⟨Vo, Vl, .func (PySem.W.fnOf "_law_course" "_law_course" (aT nc) (aP nc) (av nc) .none Vp Vq Vr Vm IU Vs), Vn⟩) (BG : PySem.W.codeIn K IU "_law_course" = true) (BH : PySem.W.keepIn K (.ref w9) = true)
 (jh : PySem.W.nsIn K mainGlobals "_law_word" = some (some (.ref xa))) (BI : K.lookup xa = some ⟨Vw, Vt, .func (PySem.W.fnOf "_law_word" "_law_word" (aT ng) (aP ng) (av ng) .none Vx Vy Vz Vu IV VA), Vv⟩) (BJ : PySem.W.codeIn K IV "_law_word" = true) (BK : PySem.W.keepIn K (.ref xa) = true)
 (ji : PySem.W.nsIn K mainGlobals "_law_words" = some (some (.ref xb))) (BL : K.lookup xb = some ⟨VE, VB, .func (PySem.W.fnOf "_law_words" "_law_words" (aT nh) (aP nh) (av nh) .none VF VG VH VC IW VI), VD⟩) (BM : PySem.W.codeIn K IW "_law_words" = true) (BN : PySem.W.keepIn K (.ref xb) = true)
 (jk : PySem.W.nsIn K mainGlobals "_law_board" = some (some (.ref xf))) (BO : K.lookup xf = some ⟨VN, VJ, .func (PySem.W.fnOf "_law_board" "_law_board" (aT ni) (aP ni) (av ni) .none VO VP VQ VL IX VR), VM⟩) (BP : PySem.W.codeIn K IX "_law_board" = true) (BQ : PySem.W.keepIn K (.ref xf) = true)
 (jl : PySem.W.nsIn K mainGlobals "_law_whole" = some (some (.ref xg))) (BR : K.lookup xg = some ⟨VV, VS, .func (PySem.W.fnOf "_law_whole" "_law_whole" (aT nj) (aP nj) (av nj) .none VW VX VY VT IY VZ), VU⟩) (BS : PySem.W.codeIn K IY "_law_whole" = true) (BV : PySem.W.keepIn K (.ref xg) = true)
 (jm : PySem.W.nsIn K mainGlobals "_law_same" = some (some (.ref xh))) (BW : K.lookup xh = some ⟨V3, V0, .func (PySem.W.fnOf "_law_same" "_law_same" (aT nk) (aP nk) (av nk) .none V4 V5 V6 V1 IZ V7), V2⟩) (BX : PySem.W.codeIn K IZ "_law_same" = true) (BY : PySem.W.keepIn K (.ref xh) = true)
 (jn : PySem.W.nsIn K mainGlobals "_law_deed" = some (some (.ref xi))) (BZ : K.lookup xi = some ⟨Wb, V8, .func (PySem.W.fnOf "_law_deed" "_law_deed" (aT nq) (aP nq) (av nq) .none Wc Wd We V9 I0 Wf), Wa⟩) (B0 : PySem.W.codeIn K I0 "_law_deed" = true) (B2 : PySem.W.keepIn K (.ref xi) = true)
 (jo : PySem.W.nsIn K mainGlobals "_law_above" = some (some (.ref xj))) (B3 : K.lookup xj = some ⟨Wj, Wg, .func (PySem.W.fnOf "_law_above" "_law_above" (aT nr) (aP nr) (av nr) .none Wk Wl Wm Wh I9 Wn), Wi⟩) (B4 : PySem.W.codeIn K I9 "_law_above" = true) (B5 : PySem.W.keepIn K (.ref xj) = true)
 (jq : PySem.W.nsIn K mainGlobals "_law_against" = some (some (.ref xk))) (B7 : K.lookup xk = some ⟨Ws, Wo, .func (PySem.W.fnOf "_law_against" "_law_against" (aT nu) (aP nu) (av nu) .none Wt Wu Wv Wq Ja Ww), Wr⟩) (B8 : PySem.W.codeIn K Ja "_law_against" = true) (B9 : PySem.W.keepIn K (.ref xk) = true)
 (jr : PySem.W.nsIn K mainGlobals "_law_pairs" = some (some (.ref xl))) (Ca : K.lookup xl = some ⟨WA, Wx, .func (PySem.W.fnOf "_law_pairs" "_law_pairs" (aT nv) (aP nv) (av nv) .none WB WC WD Wy Jb WE), Wz⟩) (Cb : PySem.W.codeIn K Jb "_law_pairs" = true) (Cc : PySem.W.keepIn K (.ref xl) = true)
 (jt : PySem.W.nsIn K mainGlobals "_law_told" = some (some (.ref xm))) (Cd : K.lookup xm = some ⟨WJ, WG, .func (PySem.W.fnOf "_law_told" "_law_told" (aT ny) (aP ny) (av ny) .none WK WL WM WH Jc WN), WI⟩) (Ce : PySem.W.codeIn K Jc "_law_told" = true) (Cf : PySem.W.keepIn K (.ref xm) = true)
 (fX : PySem.W.nsIn K mainGlobals "law" = some (some (.ref Ak))) (Cg : K.lookup Ak = some ⟨WR, WO, .func (PySem.W.fnOf "law" "law" (aT eU) (aP eU) (av eU) .none Am An Ao Al xn Ap), WQ⟩) (Ci : PySem.W.codeIn K xn "law" = true) (Cj : PySem.W.keepIn K (.ref Ak) = true)
 (Ck : PySem.W.nsIn K mainGlobals "bool" = some none)
 (Cm : PySem.W.nsIn K mainGlobals "enumerate" = some none)
 (Cn : PySem.W.nsIn K mainGlobals "int" = some none)
 (Co : PySem.W.nsIn K mainGlobals "isinstance" = some none)
 (Cp : PySem.W.nsIn K mainGlobals "len" = some none)
 (Cq : PySem.W.nsIn K mainGlobals "list" = some none)
 (Cr : PySem.W.nsIn K mainGlobals "max" = some none)
 (Cs : PySem.W.nsIn K mainGlobals "min" = some none)
 (Ct : PySem.W.nsIn K mainGlobals "range" = some none)
 (Cu : PySem.W.nsIn K mainGlobals "set" = some none)
 (Cv : PySem.W.nsIn K mainGlobals "sorted" = some none)
 (Cw : PySem.W.nsIn K mainGlobals "tuple" = some none)
 (Cy : PySem.W.nsIn K mainGlobals "GazeError" = some (some (.ref q8)))
 (Cz : PySem.W.nsIn K mainGlobals "NoBoard" = some (some (.ref dA)))
 (CA : PySem.W.nsIn K mainGlobals "NoTelling" = some (some (.ref cF)))
 (CB : PySem.W.nsIn K mainGlobals "NoClaim" = some (some (.ref dB)))
 (CC : PySem.W.nsIn K mainGlobals "Board" = some (some (.ref aE)))
 (CD : PySem.W.plainGet K aE Str.empty = true) (CF : PySem.W.hasDictIn K aE = true) (CG : PySem.W.plainOver K aE = true) (CH : PySem.W.findIn K (.ref aE) "__setattr__" = some (some (.builtin "object.__setattr__")))
 (jv : PySem.W.findIn K (.ref aE) "eyes" = some none)
 (jw : PySem.W.findIn K (.ref aE) "turns" = some none)
 (kE : PySem.W.findIn K (.ref aE) "up" = some none)
 (kF : PySem.W.findIn K (.ref aE) "down" = some none)
 (nZ : PySem.W.findIn K (.ref aE) "most" = some none)
 (fA : PySem.W.findIn K (.ref aE) "told" = some none)
 (CI : PySem.W.isFn K (.ref rG) = true)
 (n3 : PySem.W.makesIn K aE = true) (CJ : PySem.W.keepIn K (.ref aE) = true)
 (CK : PySem.W.isFn K (.ref rH) = true)
 (CL : PySem.W.isFn K (.ref rJ) = true)
 (CM : PySem.W.isFn K (.ref rK) = true)
 (CN : PySem.W.isFn K (.ref rL) = true)
 (CO : PySem.W.isFn K (.ref rM) = true)
 (CP : PySem.W.isFn K (.ref rN) = true)
 (CQ : PySem.W.isFn K (.ref rO) = true)
 (CS : PySem.W.excIn K dA [.type "ValueError", .type "Exception", .type "BaseException", .type "object"] "ValueError.__new__" = true)
 (CT : PySem.W.mroIn K dA (.type "object") = some true)
 (CU : PySem.W.mroIn K dA (.type "BaseException") = some true)
 (CV : PySem.W.findIn K (.ref dA) "__getattribute__" = some (some (.builtin "BaseException.__getattribute__")))
 (CW : PySem.W.findIn K (.ref dA) "__getattr__" = some none)
 (CY : PySem.W.findIn K (.ref dA) "__class__" = some (some (.builtin "object.__class__")))
 (CZ : PySem.W.excIn K cF [.type "ValueError", .type "Exception", .type "BaseException", .type "object"] "ValueError.__new__" = true)
 (C0 : PySem.W.mroIn K cF (.type "object") = some true)
 (C1 : PySem.W.mroIn K cF (.type "BaseException") = some true)
 (C2 : PySem.W.findIn K (.ref cF) "__getattribute__" = some (some (.builtin "BaseException.__getattribute__")))
 (C3 : PySem.W.findIn K (.ref cF) "__getattr__" = some none)
 (C4 : PySem.W.findIn K (.ref cF) "__class__" = some (some (.builtin "object.__class__")))
 (C5 : PySem.W.excIn K dB [.type "ValueError", .type "Exception", .type "BaseException", .type "object"] "ValueError.__new__" = true)
 (C6 : PySem.W.mroIn K dB (.type "object") = some true)
 (C7 : PySem.W.mroIn K dB (.type "BaseException") = some true)
 (C8 : PySem.W.findIn K (.ref dB) "__getattribute__" = some (some (.builtin "BaseException.__getattribute__")))
 (C9 : PySem.W.findIn K (.ref dB) "__getattr__" = some none)
 (Dc : PySem.W.findIn K (.ref dB) "__class__" = some (some (.builtin "object.__class__")))
 (Dd : PySem.W.nsIn K mainGlobals "EYES_AT_MOST" = some (some (.int 7 WS)))
 (De : PySem.W.nsIn K mainGlobals "TURNS_AT_MOST" = some (some (.int 12 WT)))
 : ∃ fd : FuncData, (∀ (s : Shared) (v : Value), BindsTo s fd ⟨[v], []⟩ [("_law_script", v)]) /\ ∀ base : Heap, K.In base -> base.Ns mainGlobals mg -> aL l.prog w K mg base (aM l.prog w) 7 fa fd ["_law_script"] (wA K) := by
 have e := Rc.symm.trans (PySem.W.mg_of X G fX)
 cases e
 have kx := aX (st := mE) Aq Ar As
 have qF := kx.binds (ps := ["lo", "hi"]) fun _ _ _ _ _ _ us hl => match us, hl with | [_, _], _ => rfl
 have nB := aX (st := mF) Au Av Aw
 have uH := nB.binds (ps := ["one", "other"]) fun _ _ _ _ _ _ us hl => match us, hl with | [_, _], _ => rfl
 have nC := aX (st := mG) Ax Ay Az
 have uJ := nC.binds (ps := ["some"]) fun _ _ _ _ _ _ us hl => match us, hl with | [_], _ => rfl
 have iQ := aX (st := mH) AA AB AD
 have nD := iQ.binds (ps := ["one", "other"]) fun _ _ _ _ _ _ us hl => match us, hl with | [_, _], _ => rfl
 have ky := aX (st := mI) AE AF AG
 have qG := ky.binds (ps := ["one", "by"]) fun _ _ _ _ _ _ us hl => match us, hl with | [_, _], _ => rfl
 have nE := aX (st := mJ) AH AI AJ
 have uO := nE.binds (ps := ["steps", "marks"]) fun _ _ _ _ _ _ us hl => match us, hl with | [_, _], _ => rfl
 have nF := aX (st := mK) AK AL AM
 have uQ := nF.binds (ps := ["tops", "marks"]) fun _ _ _ _ _ _ us hl => match us, hl with | [_, _], _ => rfl
 have nG := aX (st := mL) AN AO AQ
 have uS := nG.binds (ps := ["board", "kind", "turn"]) fun _ _ _ _ _ _ us hl => match us, hl with | [_, _, _], _ => rfl
 have nH := aX (st := mM) AR AS AU
 have uU := nH.binds (ps := ["board", "claim"]) fun _ _ _ _ _ _ us hl => match us, hl with | [_, _], _ => rfl
 have nI := aX (st := mO) AV AW AX
 have uW := nI.binds (ps := ["claim", "kind", "turn"]) fun _ _ _ _ _ _ us hl => match us, hl with | [_, _, _], _ => rfl
 have nJ := aX (st := mP) AY AZ A0
 have uY := nJ.binds (ps := ["board", "claim"]) fun _ _ _ _ _ _ us hl => match us, hl with | [_, _], _ => rfl
 have nK := aX (st := mQ) A1 A2 A3
 have u7 := nK.binds (ps := ["board", "eye"]) fun _ _ _ _ _ _ us hl => match us, hl with | [_, _], _ => rfl
 have nM := aX (st := mR) A4 A5 A6
 have vc := nM.binds (ps := ["board"]) fun _ _ _ _ _ _ us hl => match us, hl with | [_], _ => rfl
 have nN := aX (st := mS) A7 A8 A9
 have ve := nN.binds (ps := ["steps", "groups"]) fun _ _ _ _ _ _ us hl => match us, hl with | [_, _], _ => rfl
 have kz := aX (st := mT) Ba Bb Bc
 have qH := kz.binds (ps := ["board"]) fun _ _ _ _ _ _ us hl => match us, hl with | [_], _ => rfl
 have qI := aX (st := mU) Be Bf Bg
 have vh := qI.binds (ps := ["self", "eyes", "turns", "up", "down", "most"]) fun _ _ _ _ _ _ us hl => match us, hl with | [_, _, _, _, _, _], _ => rfl
 have qJ := aX (st := mV) Bh Bi xo
 have vl := qJ.binds (ps := ["self", "eye"]) fun _ _ _ _ _ _ us hl => match us, hl with | [_, _], _ => rfl
 have qK := aX (st := mW) Bj Bk xq
 have kA := qK.binds (ps := ["self", "turn"]) fun _ _ _ _ _ _ us hl => match us, hl with | [_, _], _ => rfl
 have qL := aX (st := mX) Bl Bm xr
 have qM := qL.binds (ps := ["self", "eye", "turn", "lo", "hi"]) fun _ _ _ _ _ _ us hl => match us, hl with | [_, _, _, _, _], _ => rfl
 have qN := aX (st := mY) Bn Bo xt
 have vq := qN.binds (ps := ["self", "eye", "turn"]) fun _ _ _ _ _ _ us hl => match us, hl with | [_, _, _], _ => rfl
 have qO := aX (st := mZ) Bp Bq xu
 have qP := qO.binds (ps := ["self"]) fun _ _ _ _ _ _ us hl => match us, hl with | [_], _ => rfl
 have qQ := aX (st := m5) Br Bs xx
 have vx := qQ.binds (ps := ["self", "eye", "turn"]) fun _ _ _ _ _ _ us hl => match us, hl with | [_, _, _], _ => rfl
 have qR := aX (st := m6) Bu Bv xy
 have vz := qR.binds (ps := ["self", "eye", "turn"]) fun _ _ _ _ _ _ us hl => match us, hl with | [_, _, _], _ => rfl
 have br := aX (st := m7) Bw Bx By
 have bD := br.binds (ps := ["_law_script", "_law_k", "_law_many"]) fun _ _ _ _ _ _ us hl => match us, hl with | [_, _, _], _ => rfl
 have je := aX (st := m8) Bz BA BB
 have nO := je.binds (ps := ["_law_script", "_law_k", "_law_many"]) fun _ _ _ _ _ _ us hl => match us, hl with | [_, _, _], _ => rfl
 have nP := aX (st := m9) BC BD BE
 have vE := nP.binds (ps := ["_law_script"]) fun _ _ _ _ _ _ us hl => match us, hl with | [_], _ => rfl
 have nQ := aX (st := nc) BF BG BH
 have vG := nQ.binds (ps := ["_law_script", "_law_shape_here"]) fun _ _ _ _ _ _ us hl => match us, hl with | [_, _], _ => rfl
 have kB := aX (st := ng) BI BJ BK
 have qS := kB.binds (ps := ["_law_script", "_law_k", "_law_far", "_law_number", "_law_false"]) fun _ _ _ _ _ _ us hl => match us, hl with | [_, _, _, _, _], _ => rfl
 have nR := aX (st := nh) BL BM BN
 have vJ := nR.binds (ps := ["_law_script", "_law_shape_here", "_law_course_here"]) fun _ _ _ _ _ _ us hl => match us, hl with | [_, _, _], _ => rfl
 have nT := aX (st := ni) BO BP BQ
 have vL := nT.binds (ps := ["_law_script", "_law_shape_here", "_law_told_here"]) fun _ _ _ _ _ _ us hl => match us, hl with | [_, _, _], _ => rfl
 have kC := aX (st := nj) BR BS BV
 have qT := kC.binds (ps := ["_law_found"]) fun _ _ _ _ _ _ us hl => match us, hl with | [_], _ => rfl
 have nU := aX (st := nk) BW BX BY
 have vO := nU.binds (ps := ["_law_board_here", "_law_told_here"]) fun _ _ _ _ _ _ us hl => match us, hl with | [_, _], _ => rfl
 have nV := aX (st := nq) BZ B0 B2
 have vQ := nV.binds (ps := ["_law_script", "_law_shape_here", "_law_course_here", "_law_told_here", "_law_board_here"]) fun _ _ _ _ _ _ us hl => match us, hl with | [_, _, _, _, _], _ => rfl
 have nW := aX (st := nr) B3 B4 B5
 have vS := nW.binds (ps := ["_law_shape_here", "_law_one", "_law_other"]) fun _ _ _ _ _ _ us hl => match us, hl with | [_, _, _], _ => rfl
 have nX := aX (st := nu) B7 B8 B9
 have vU := nX.binds (ps := ["_law_shape_here", "_law_told_here", "_law_one", "_law_other"]) fun _ _ _ _ _ _ us hl => match us, hl with | [_, _, _, _], _ => rfl
 have nY := aX (st := nv) Ca Cb Cc
 have vW := nY.binds (ps := ["_law_shape_here", "_law_told_here"]) fun _ _ _ _ _ _ us hl => match us, hl with | [_, _], _ => rfl
 have kD := aX (st := ny) Cd Ce Cf
 have qU := kD.binds (ps := ["_law_board_here", "_law_shape_here", "_law_told_here"]) fun _ _ _ _ _ _ us hl => match us, hl with | [_, _, _], _ => rfl
 have qW := aX (st := eU) Cg Ci Cj
 have zN := qW.binds (ps := ["_law_script"]) fun _ _ _ _ _ _ us hl => match us, hl with | [_], _ => rfl
 have T : ∃ T : Tx K mg, T.fX = fa /\ T.qV = PySem.W.fnOf "law" "law" (aT eU) (aP eU) (av eU) .none Am An Ao Al xn Ap := ⟨{ iM := wH, uF := _, kx := kx, qF := qF, zH := PySem.W.mg_of X G iM, iN := wI, uG := _, nB := nB, uH := uH, GR := PySem.W.mg_of X G iN, iO := wJ, uI := _, nC := nC, uJ := uJ, GS := PySem.W.mg_of X G iO, iP := wK, uK := _, iQ := iQ, nD := nD, uL := PySem.W.mg_of X G iP, iR := wL, uM := _, ky := ky, qG := qG, zI := PySem.W.mg_of X G iR, iS := wM, uN := _, nE := nE, uO := uO, GU := PySem.W.mg_of X G iS, iT := wN, uP := _, nF := nF, uQ := uQ, GV := PySem.W.mg_of X G iT, iU := wO, uR := _, nG := nG, uS := uS, GW := PySem.W.mg_of X G iU, iV := wQ, uT := _, nH := nH, uU := uU, GX := PySem.W.mg_of X G iV, iW := wR, uV := _, nI := nI, uW := uW, GY := PySem.W.mg_of X G iW, iX := wU, uX := _, nJ := nJ, uY := uY, GZ := PySem.W.mg_of X G iX, iY := wV, uZ := _, nK := nK, u7 := u7, G0 := PySem.W.mg_of X G iY, iZ := wW, u9 := _, nM := nM, vc := vc, G1 := PySem.W.mg_of X G iZ, i0 := wX, vd := _, nN := nN, ve := ve, G2 := PySem.W.mg_of X G i0, i3 := wY, vf := _, kz := kz, qH := qH, zJ := PySem.W.mg_of X G i3, i4 := rG, vg := _, qI := qI, vh := vh, i5 := rH, vk := _, qJ := qJ, vl := vl, i6 := rJ, vm := _, qK := qK, kA := kA, i7 := rK, vn := _, qL := qL, qM := qM, i8 := rL, vo := _, qN := qN, vq := vq, i9 := rM, vu := _, qO := qO, qP := qP, ja := rN, vw := _, qQ := qQ, vx := vx, jb := rO, vy := _, qR := qR, vz := vz, jc := wZ, vA := _, br := br, bD := bD, bL := PySem.W.mg_of X G jc, jd := w5, vB := _, je := je, nO := nO, vC := PySem.W.mg_of X G jd, jf := w6, vD := _, nP := nP, vE := vE, G3 := PySem.W.mg_of X G jf, jg := w9, vF := _, nQ := nQ, vG := vG, G4 := PySem.W.mg_of X G jg, jh := xa, vH := _, kB := kB, qS := qS, zK := PySem.W.mg_of X G jh, ji := xb, vI := _, nR := nR, vJ := vJ, G5 := PySem.W.mg_of X G ji, jk := xf, vK := _, nT := nT, vL := vL, G6 := PySem.W.mg_of X G jk, jl := xg, vM := _, kC := kC, qT := qT, zL := PySem.W.mg_of X G jl, jm := xh, vN := _, nU := nU, vO := vO, G7 := PySem.W.mg_of X G jm, jn := xi, vP := _, nV := nV, vQ := vQ, G8 := PySem.W.mg_of X G jn, jo := xj, vR := _, nW := nW, vS := vS, G9 := PySem.W.mg_of X G jo, jq := xk, vT := _, nX := nX, vU := vU, Ha := PySem.W.mg_of X G jq, jr := xl, vV := _, nY := nY, vW := vW, Hb := PySem.W.mg_of X G jr, jt := xm, vX := _, kD := kD, qU := qU, zM := PySem.W.mg_of X G jt, fX := fa, qV := _, qW := qW, zN := zN, OU := PySem.W.mg_of X G fX, Hc := PySem.W.mg_none_of X G Ck, zO := PySem.W.mg_none_of X G Cm, Hd := PySem.W.mg_none_of X G Cn, qX := PySem.W.mg_none_of X G Co, gU := PySem.W.mg_none_of X G Cp, qY := PySem.W.mg_none_of X G Cq, vY := PySem.W.mg_none_of X G Cr, ju := PySem.W.mg_none_of X G Cs, gW := PySem.W.mg_none_of X G Ct, He := PySem.W.mg_none_of X G Cu, qZ := PySem.W.mg_none_of X G Cv, Hf := PySem.W.mg_none_of X G Cw, q8 := q8, OV := PySem.W.mg_of X G Cy, dA := dA, vZ := PySem.W.mg_of X G Cz, cF := cF, v3 := PySem.W.mg_of X G CA, dB := dB, Hg := PySem.W.mg_of X G CB, aE := aE, Hh := PySem.W.mg_of X G CC, bw := ⟨CD, CF, CG, CH⟩, jv := jv, jw := jw, kE := kE, kF := kF, nZ := nZ, fA := fA, n3 := ⟨n3, i4, CI, CJ⟩, Hi := ⟨i5, CK, xo⟩, q9 := ⟨i6, CL, xq⟩, zP := ⟨i7, CM, xr⟩, Hj := ⟨i8, CN, xt⟩, zQ := ⟨i9, CO, xu⟩, Hk := ⟨ja, CP, xx⟩, Hl := ⟨jb, CQ, xy⟩, v5 := ⟨CS, CT, CU, CV, CW, CY⟩, v7 := ⟨CZ, C0, C1, C2, C3, C4⟩, Hm := ⟨C5, C6, C7, C8, C9, Dc⟩, Hn := ⟨_, PySem.W.mg_of X G Dd⟩, Ho := ⟨_, PySem.W.mg_of X G De⟩ }, rfl, rfl⟩
 obtain ⟨T, e1, e2⟩ := T
 refine ⟨PySem.W.fnOf "law" "law" (aT eU) (aP eU) (av eU) .none Am An Ao Al xn Ap, fun s v => .of_eq rfl, fun base _ _ => ?_⟩
 rw [<- e1, <- e2]
 exact Q9 T
theorem walk {l : PySem.W.OpenLaw} {q : Program} {loose : List Str} {XP : (Str -> Option Value) -> Heap -> Prop} {YP : World -> Heap -> Prop} {d : DefRec} {K : Params -> PySem.W.Frag} (hn : l.most = some 63) (WU : d.params.defaults = [])
 (hY : ∀ (w : World) (h : Heap), YP w h -> (K w.params).In h)
 (F : ∀ (w : World) (mg : Str -> Option Value) (fa : Addr) (h : Heap), (K w.params).In h -> h.Ns mainGlobals mg -> mg d.name = some (.ref fa) ->
   ∃ fd : FuncData, (∀ (s : Shared) (u : Value), BindsTo s fd ⟨[u], []⟩ [("_law_script", u)]) /\ ∀ base : Heap, (K w.params).In base -> base.Ns mainGlobals mg -> aL l.prog w (K w.params) mg base (aM l.prog w) 7 fa fd ["_law_script"] (wA (K w.params))) :
 PySem.W.WalkO q loose XP YP l.row.toRowW d [] (fun f vs => PySem.call f vs) :=
 Gz.L9 (k := 7) (x := "_law_script") (CX := fun w => aM l.prog w) (sp := fun w => wA (K w.params)) hn WU ⟨rfl, by decide, by decide⟩ hY F (fun _ _ a ns hl hS => ⟨a, ns, rfl, hS, hl, fun _ => rfl⟩) fun _ _ _ _ _ z => K8 z
end zB
namespace PySem.W.Fast
theorem tw16851064199749961842:True:=⟨⟩
theorem tw9088150442923872537:True:=⟨⟩
theorem tw11068855618821381575:True:=⟨⟩
theorem tw2217308611601698616:True:=⟨⟩
theorem tw3627918596981652322:True:=⟨⟩
theorem tw9193546624659050114:True:=⟨⟩
theorem tw13179815980858758605:True:=⟨⟩
theorem tw11792246604244528965:True:=⟨⟩
theorem tw17741779600472478523:True:=⟨⟩
theorem tw9888765540142879408:True:=⟨⟩
theorem tw8565049066991738191:True:=⟨⟩
theorem tw5066522438974351053:True:=⟨⟩
theorem tw9750756225876476821:True:=⟨⟩
theorem tw6019846123349916357:True:=⟨⟩
theorem tw105068364134667799:True:=⟨⟩
theorem tw9537983273106795390:True:=⟨⟩
theorem tw12703669569265688060:True:=⟨⟩
theorem tw5882370696443719061:True:=⟨⟩
theorem tw13299161907514902294:True:=⟨⟩
theorem tw15555877272569899839:True:=⟨⟩
theorem tw18101850224269817351:True:=⟨⟩
theorem tw10617203133023810357:True:=⟨⟩
theorem tw15285497599538766713:True:=⟨⟩
theorem tw13717999449269557585:True:=⟨⟩
theorem tw13667469301433747601:True:=⟨⟩
theorem tw9733616560766000579:True:=⟨⟩
theorem tw9285496248070201143:True:=⟨⟩
theorem tw8500025456309603181:True:=⟨⟩
theorem tw8316349903506837913:True:=⟨⟩
theorem tw10185120671959349322:True:=⟨⟩
theorem tw2313397054539971542:True:=⟨⟩
theorem tw1505277323430191970:True:=⟨⟩
theorem tw2115957454990205686:True:=⟨⟩
theorem tw9900469979271818481:True:=⟨⟩
theorem tw10055332616266126027:True:=⟨⟩
theorem tw1408878423713713502:True:=⟨⟩
theorem tw5741190688069755089:True:=⟨⟩
theorem tw1329737502337487128:True:=⟨⟩
theorem tw9466552982877256070:True:=⟨⟩
theorem tw2004785457085422860:True:=⟨⟩
theorem tw1408170301367588104:True:=⟨⟩
theorem tw5562626929046706877:True:=⟨⟩
theorem tw18019533627175174153:True:=⟨⟩
theorem tw1179069446477384383:True:=⟨⟩
theorem tw8063032417563938950:True:=⟨⟩
theorem tw10754012491812374234:True:=⟨⟩
theorem tw11488760212710542928:True:=⟨⟩
theorem tw2964936485889849765:True:=⟨⟩
theorem tw12370751815691419838:True:=⟨⟩
theorem tw16130812150976733900:True:=⟨⟩
theorem tw7833724542558051828:True:=⟨⟩
theorem tw2953610016231461258:True:=⟨⟩
theorem tw2602208501835527846:True:=⟨⟩
theorem tw6833453066413522635:True:=⟨⟩
theorem tw2062339787923665748:True:=⟨⟩
theorem tw7742752868902681600:True:=⟨⟩
theorem tw11287997050822602931:True:=⟨⟩
theorem tw4232040797162576652:True:=⟨⟩
theorem tw11505242397480913026:True:=⟨⟩
theorem tw4458169470694964291:True:=⟨⟩
theorem tw5843119929822624630:True:=⟨⟩
theorem tw1090566707631844100:True:=⟨⟩
theorem tw18437623575805120213:True:=⟨⟩
theorem tw13017448351135379039:True:=⟨⟩
theorem tw12307018971304541537:True:=⟨⟩
theorem tw13657556280543372231:True:=⟨⟩
theorem tw10873982487307939376:True:=⟨⟩
theorem tw5178429356338404354:True:=⟨⟩
theorem tw14076578660541882847:True:=⟨⟩
theorem tw4818292669351389513:True:=⟨⟩
theorem tw12562518173468870477:True:=⟨⟩
theorem tw222830505603816404:True:=⟨⟩
theorem tw13658226121637407042:True:=⟨⟩
theorem tw2496763163256050549:True:=⟨⟩
theorem tw14671436531752361647:True:=⟨⟩
theorem tw4360567932994721148:True:=⟨⟩
theorem tw7998438115382527574:True:=⟨⟩
theorem tw3232517779184167455:True:=⟨⟩
theorem tw14329513481604421908:True:=⟨⟩
theorem tw3751891988865159968:True:=⟨⟩
theorem tw16815726990474268869:True:=⟨⟩
theorem tw9541348573482218858:True:=⟨⟩
theorem tw1351019257460171807:True:=⟨⟩
theorem tw2508158880519336972:True:=⟨⟩
theorem tw664443103133756642:True:=⟨⟩
theorem tw5435095652738930588:True:=⟨⟩
theorem tw2434732627828491026:True:=⟨⟩
theorem tw14497855306631720291:True:=⟨⟩
theorem tw2026143159367580468:True:=⟨⟩
theorem tw13855953177256820480:True:=⟨⟩
theorem tw4714700359818395942:True:=⟨⟩
theorem tw10124907896054393471:True:=⟨⟩
theorem tw369081277727588142:True:=⟨⟩
theorem tw6960641076055496024:True:=⟨⟩
theorem tw14249703091980287146:True:=⟨⟩
theorem tw5309869874492102467:True:=⟨⟩
theorem tw16760867107322508212:True:=⟨⟩
theorem tw14991846536306883394:True:=⟨⟩
theorem tw25938595382115235:True:=⟨⟩
theorem tw7889448280741857720:True:=⟨⟩
theorem tw16986894413076525945:True:=⟨⟩
theorem tw634494600833612673:True:=⟨⟩
theorem tw10523473110780501793:True:=⟨⟩
theorem tw15440743793416638628:True:=⟨⟩
theorem tw5058336730527081042:True:=⟨⟩
theorem tw13170449368098659959:True:=⟨⟩
theorem tw1781312883836867549:True:=⟨⟩
theorem tw9034555993894784515:True:=⟨⟩
theorem tw14893762921719519194:True:=⟨⟩
theorem tw16794173184601805835:True:=⟨⟩
theorem tw18180960184641818525:True:=⟨⟩
theorem tw9118617909815174298:True:=⟨⟩
theorem tw5879246862185106693:True:=⟨⟩
theorem tw4262144558464431403:True:=⟨⟩
theorem tw14281272497598070492:True:=⟨⟩
theorem tw9822699906805070338:True:=⟨⟩
theorem tw18220288166153676694:True:=⟨⟩
theorem tw8706617066642873494:True:=⟨⟩
theorem tw2553150015614742304:True:=⟨⟩
theorem tw5519493022415062250:True:=⟨⟩
theorem tw14363815221823409375:True:=⟨⟩
theorem tw943905719339018017:True:=⟨⟩
theorem tw9856829390632556997:True:=⟨⟩
theorem tw13989568919676758319:True:=⟨⟩
theorem tw8759094536769082997:True:=⟨⟩
theorem tw6848859729988031149:True:=⟨⟩
theorem tw13440743245468240626:True:=⟨⟩
theorem tw8713882118139943773:True:=⟨⟩
theorem tw12605808982436414819:True:=⟨⟩
theorem tw16010829150343722689:True:=⟨⟩
theorem tw2473313073104012437:True:=⟨⟩
theorem tw2314277770926596437:True:=⟨⟩
theorem tw11725033915722197870:True:=⟨⟩
theorem tw10064155745925658144:True:=⟨⟩
theorem tw14748510987387275853:True:=⟨⟩
theorem tw2528526518494131276:True:=⟨⟩
theorem tw8395116352788697247:True:=⟨⟩
theorem tw4284924033746081713:True:=⟨⟩
theorem tw6717762850010530682:True:=⟨⟩
theorem tw6016111067446691650:True:=⟨⟩
theorem tw1896725947560721941:True:=⟨⟩
theorem tw2705630282851399995:True:=⟨⟩
theorem tw16707098075330793334:True:=⟨⟩
theorem tw17525556367283110406:True:=⟨⟩
theorem tw4599617197523617431:True:=⟨⟩
theorem tw14903560740318501134:True:=⟨⟩
theorem tw5503723361685205728:True:=⟨⟩
theorem tw12708523127794120088:True:=⟨⟩
theorem tw16682901759648216140:True:=⟨⟩
theorem tw14282664619952513372:True:=⟨⟩
theorem tw13987605813859965966:True:=⟨⟩
theorem tw14892543054862999345:True:=⟨⟩
theorem tw2043880950290532665:True:=⟨⟩
theorem tw15915682891763728094:True:=⟨⟩
theorem tw18245871142465629632:True:=⟨⟩
theorem tw7603719580189432961:True:=⟨⟩
theorem tw1314525597494425444:True:=⟨⟩
theorem tw5298685188174602889:True:=⟨⟩
theorem tw12686808053515642367:True:=⟨⟩
theorem tw11127102334569341575:True:=⟨⟩
theorem tw6342987196620012208:True:=⟨⟩
theorem tw5510125995155257779:True:=⟨⟩
theorem tw14888714009282384891:True:=⟨⟩
theorem tw9894918454268831652:True:=⟨⟩
theorem tw14180634963314139868:True:=⟨⟩
theorem tw5134255226657856305:True:=⟨⟩
theorem tw1922211833135369132:True:=⟨⟩
theorem tw2738026664556740982:True:=⟨⟩
theorem tw8732843676285080710:True:=⟨⟩
theorem tw2440296747901782229:True:=⟨⟩
theorem tw4099551540902060480:True:=⟨⟩
theorem tw478067757930646640:True:=⟨⟩
theorem tw4236417851659831091:True:=⟨⟩
theorem tw11826658623800061129:True:=⟨⟩
theorem tw13964870877737807097:True:=⟨⟩
theorem tw5537125177958315347:True:=⟨⟩
theorem tw12301675599911660026:True:=⟨⟩
theorem tw3709056273465353118:True:=⟨⟩
theorem tw16082374406343371796:True:=⟨⟩
theorem tw14698262422721745357:True:=⟨⟩
theorem tw9019539297361340361:True:=⟨⟩
theorem tw10569317993934718509:True:=⟨⟩
theorem tw6975606627151406512:True:=⟨⟩
theorem tw2203419958028659278:True:=⟨⟩
theorem tw13646834754872701108:True:=⟨⟩
theorem tw6360797372515063337:True:=⟨⟩
theorem tw4671929626932729565:True:=⟨⟩
theorem tw12581954472567403695:True:=⟨⟩
theorem tw3605715449272463340:True:=⟨⟩
theorem tw2849515908516780365:True:=⟨⟩
theorem tw7703966809387306471:True:=⟨⟩
theorem tw17473677397306559065:True:=⟨⟩
theorem tw1518716192798219702:True:=⟨⟩
theorem tw14280216972509999051:True:=⟨⟩
theorem tw8514296440459144730:True:=⟨⟩
theorem tw9034054009980635409:True:=⟨⟩
theorem tw16887648600906564634:True:=⟨⟩
theorem tw6564300739645062542:True:=⟨⟩
theorem tw13769962972329603510:True:=⟨⟩
theorem tw10812665889677818106:True:=⟨⟩
theorem tw9938062974729167100:True:=⟨⟩
theorem tw784988759922592986:True:=⟨⟩
theorem tw16663121323593902436:True:=⟨⟩
theorem tw13205783734319020409:True:=⟨⟩
theorem tw14482734359362825761:True:=⟨⟩
theorem tw9025356157446003820:True:=⟨⟩
theorem tw7359012461997269684:True:=⟨⟩
theorem tw5773629302396735402:True:=⟨⟩
theorem tw5869181925762425589:True:=⟨⟩
theorem tw18189156976202422741:True:=⟨⟩
theorem tw2649440919109249258:True:=⟨⟩
theorem tw6024488650743070565:True:=⟨⟩
theorem tw13349981791520845285:True:=⟨⟩
theorem tw12100481637544232860:True:=⟨⟩
theorem tw5460267625488427006:True:=⟨⟩
theorem tw12352513731166326060:True:=⟨⟩
theorem tw17049684030304414186:True:=⟨⟩
theorem tw4103392545794250996:True:=⟨⟩
theorem tw14384971786589281535:True:=⟨⟩
theorem tw1693018182766925037:True:=⟨⟩
theorem tw1818489120739172767:True:=⟨⟩
theorem tw5247430226209717653:True:=⟨⟩
theorem tw11536224430315095286:True:=⟨⟩
theorem tw13492832048456167355:True:=⟨⟩
theorem tw18085175280073013428:True:=⟨⟩
theorem tw1908604384066109265:True:=⟨⟩
theorem tw7600910373242475945:True:=⟨⟩
theorem tw8184788110968840413:True:=⟨⟩
theorem tw3050051578669469125:True:=⟨⟩
theorem tw7356104248761667872:True:=⟨⟩
theorem tw14397257804156848259:True:=⟨⟩
theorem tw2831811140883537879:True:=⟨⟩
theorem tw8014146678115858143:True:=⟨⟩
theorem tw2892228613157020996:True:=⟨⟩
theorem tw6913791387672135685:True:=⟨⟩
theorem tw9009023165434932457:True:=⟨⟩
theorem tw17574348335237461161:True:=⟨⟩
theorem tw14531815282918838565:True:=⟨⟩
theorem tw4650756319476284722:True:=⟨⟩
theorem tw18183248034519246797:True:=⟨⟩
theorem tw5538820137827227676:True:=⟨⟩
theorem tw8715835431649971198:True:=⟨⟩
theorem tw3846513236859887750:True:=⟨⟩
theorem tw1258553146112258851:True:=⟨⟩
theorem tw2664881966359200238:True:=⟨⟩
theorem tw3733044887519619800:True:=⟨⟩
theorem tw2544864843823642906:True:=⟨⟩
theorem tw3917883791151726758:True:=⟨⟩
theorem tw2055588407952086170:True:=⟨⟩
theorem tw10957807188011466681:True:=⟨⟩
theorem tw1080373634181817881:True:=⟨⟩
theorem tw4576817276183074752:True:=⟨⟩
theorem tw9119745411792783873:True:=⟨⟩
theorem tw15591621145364357326:True:=⟨⟩
theorem tw13292657784981616223:True:=⟨⟩
theorem tw1569556140686879843:True:=⟨⟩
theorem tw4877755134050716160:True:=⟨⟩
theorem tw8586374024141684295:True:=⟨⟩
theorem tw2816041541322194508:True:=⟨⟩
theorem tw11099810841230898336:True:=⟨⟩
theorem tw8266625141779729816:True:=⟨⟩
theorem tw9140410375343550413:True:=⟨⟩
theorem tw412599438548085322:True:=⟨⟩
theorem tw17565519655027689114:True:=⟨⟩
theorem tw1522244709892070685:True:=⟨⟩
theorem tw13419336663103167833:True:=⟨⟩
theorem tw14586897924207524570:True:=⟨⟩
theorem tw13070963586874543570:True:=⟨⟩
theorem tw15349096548104108967:True:=⟨⟩
theorem tw376316518928096307:True:=⟨⟩
theorem tw15809143195805626528:True:=⟨⟩
theorem tw4622273216062188723:True:=⟨⟩
theorem tw10344257199979831745:True:=⟨⟩
theorem tw11478749307702384237:True:=⟨⟩
theorem tw319348438716305419:True:=⟨⟩
theorem tw43987923794239353:True:=⟨⟩
theorem tw6370155813179190276:True:=⟨⟩
theorem tw6347120158402992828:True:=⟨⟩
theorem tw5958268534590011668:True:=⟨⟩
theorem tw7845749905179982215:True:=⟨⟩
theorem tw15329483077248976216:True:=⟨⟩
theorem tw2056541230241523944:True:=⟨⟩
theorem tw5684882395663498423:True:=⟨⟩
theorem tw980762266983518868:True:=⟨⟩
theorem tw1556404638069354888:True:=⟨⟩
theorem tw3469417283622655707:True:=⟨⟩
theorem tw13861219547721295281:True:=⟨⟩
theorem tw173168451047934757:True:=⟨⟩
theorem tw4962663319219653791:True:=⟨⟩
theorem tw12910996573234630109:True:=⟨⟩
theorem tw5442323776170364777:True:=⟨⟩
theorem tw15958593814881074115:True:=⟨⟩
theorem tw11696760375441032837:True:=⟨⟩
theorem tw5780730223174710957:True:=⟨⟩
theorem tw11003313584092093806:True:=⟨⟩
theorem tw9621560074441095514:True:=⟨⟩
theorem tw2806859475745647972:True:=⟨⟩
theorem tw4750995916342342261:True:=⟨⟩
theorem tw5869409255686261307:True:=⟨⟩
theorem tw18331973378856967151:True:=⟨⟩
theorem tw16178102210934074237:True:=⟨⟩
theorem tw1901774755115601046:True:=⟨⟩
theorem tw13547958235966000602:True:=⟨⟩
theorem tw4701257754239942205:True:=⟨⟩
theorem tw2894027646279191369:True:=⟨⟩
theorem tw11882466596354436318:True:=⟨⟩
theorem tw15664952458814453979:True:=⟨⟩
theorem tw1792270952232210228:True:=⟨⟩
theorem tw8938406658271638543:True:=⟨⟩
theorem tw13663238462097246618:True:=⟨⟩
theorem tw6853797338987066451:True:=⟨⟩
theorem tw17929425810532802720:True:=⟨⟩
theorem tw5931574778921711396:True:=⟨⟩
theorem tw12569533732116871962:True:=⟨⟩
theorem tw14756621542289380427:True:=⟨⟩
theorem tw1212387744118055104:True:=⟨⟩
theorem tw1839245961804857716:True:=⟨⟩
theorem tw15229104685677667350:True:=⟨⟩
theorem tw14664376136697676244:True:=⟨⟩
theorem tw1715161752158259471:True:=⟨⟩
theorem tw3808593206986797013:True:=⟨⟩
theorem tw18179803557629134979:True:=⟨⟩
theorem tw16125795424440683574:True:=⟨⟩
theorem tw11146302616435057274:True:=⟨⟩
theorem tw16681889760699205823:True:=⟨⟩
theorem tw5997853595659895394:True:=⟨⟩
theorem tw14557868853156325350:True:=⟨⟩
theorem tw5766609928346957402:True:=⟨⟩
theorem tw10970644653862158581:True:=⟨⟩
theorem tw16806230609040875392:True:=⟨⟩
theorem tw13236603686493583379:True:=⟨⟩
end PySem.W.Fast
open PySem PySem.W PyProof.Rows
set_option maxRecDepth 100000 in
set_option maxHeartbeats 0 in
theorem PySem.Challenge.cw_gaze_k41_quarrels_holds : PySem.Challenge.rw_gaze_k41_quarrels.Holds := by
 w_on; o_law; k_head; (case hw => w_witness2)
 k_fill
 refine zB.walk (l := PySem.Challenge.rw_gaze_k41_quarrels) rfl rfl (fun w h Y => PySem.W.kIn_of Y) ?F
 case F =>
  intro w mg fa h KX G WV
  refine' zB.Rb KX G WV ?iM ?Aq ?Ar ?As ?iN ?Au ?Av ?Aw ?iO ?Ax ?Ay ?Az ?iP ?AA ?AB ?AD ?iR ?AE ?AF ?AG ?iS ?AH ?AI ?AJ ?iT ?AK ?AL ?AM ?iU ?AN ?AO ?AQ ?iV ?AR ?AS ?AU ?iW ?AV ?AW ?AX ?iX ?AY ?AZ ?A0 ?iY ?A1 ?A2 ?A3 ?iZ ?A4 ?A5 ?A6 ?i0 ?A7 ?A8 ?A9 ?i3 ?Ba ?Bb ?Bc ?i4 ?Be ?Bf ?Bg ?i5 ?Bh ?Bi ?xo ?i6 ?Bj ?Bk ?xq ?i7 ?Bl ?Bm ?xr ?i8 ?Bn ?Bo ?xt ?i9 ?Bp ?Bq ?xu ?ja ?Br ?Bs ?xx ?jb ?Bu ?Bv ?xy ?jc ?Bw ?Bx ?By ?jd ?Bz ?BA ?BB ?jf ?BC ?BD ?BE ?jg ?BF ?BG ?BH ?jh ?BI ?BJ ?BK ?ji ?BL ?BM ?BN ?jk ?BO ?BP ?BQ ?jl ?BR ?BS ?BV ?jm ?BW ?BX ?BY ?jn ?BZ ?B0 ?B2 ?jo ?B3 ?B4 ?B5 ?jq ?B7 ?B8 ?B9 ?jr ?Ca ?Cb ?Cc ?jt ?Cd ?Ce ?Cf ?fX ?Cg ?Ci ?Cj ?Ck ?Cm ?Cn ?Co ?Cp ?Cq ?Cr ?Cs ?Ct ?Cu ?Cv ?Cw ?Cy ?Cz ?CA ?CB ?CC ?CD ?CF ?CG ?CH ?jv ?jw ?kE ?kF ?nZ ?fA ?CI ?n3 ?CJ ?CK ?CL ?CM ?CN ?CO ?CP ?CQ ?CS ?CT ?CU ?CV ?CW ?CY ?CZ ?C0 ?C1 ?C2 ?C3 ?C4 ?C5 ?C6 ?C7 ?C8 ?C9 ?Dc ?Dd ?De
  (case Cy => k_is)
  (case Cz => k_is)
  (case CA => k_is)
  (case CB => k_is)
  (case CC => k_is)
  (case iM => k_is)
  (case Aq => k_is)
  (case Ar => k_is)
  (case As => k_is)
  (case iN => k_is)
  (case Au => k_is)
  (case Av => k_is)
  (case Aw => k_is)
  (case iO => k_is)
  (case Ax => k_is)
  (case Ay => k_is)
  (case Az => k_is)
  (case iP => k_is)
  (case AA => k_is)
  (case AB => k_is)
  (case AD => k_is)
  (case iR => k_is)
  (case AE => k_is)
  (case AF => k_is)
  (case AG => k_is)
  (case iS => k_is)
  (case AH => k_is)
  (case AI => k_is)
  (case AJ => k_is)
  (case iT => k_is)
  (case AK => k_is)
  (case AL => k_is)
  (case AM => k_is)
  (case iU => k_is)
  (case AN => k_is)
  (case AO => k_is)
  (case AQ => k_is)
  (case iV => k_is)
  (case AR => k_is)
  (case AS => k_is)
  (case AU => k_is)
  (case iW => k_is)
  (case AV => k_is)
  (case AW => k_is)
  (case AX => k_is)
  (case iX => k_is)
  (case AY => k_is)
  (case AZ => k_is)
  (case A0 => k_is)
  (case iY => k_is)
  (case A1 => k_is)
  (case A2 => k_is)
  (case A3 => k_is)
  (case iZ => k_is)
  (case A4 => k_is)
  (case A5 => k_is)
  (case A6 => k_is)
  (case i0 => k_is)
  (case A7 => k_is)
  (case A8 => k_is)
  (case A9 => k_is)
  (case i3 => k_is)
  (case Ba => k_is)
  (case Bb => k_is)
  (case Bc => k_is)
  (case i4 => k_is)
  (case Be => k_is)
  (case Bf => k_is)
  (case Bg => k_is)
  (case i5 => k_is)
  (case Bh => k_is)
  (case Bi => k_is)
  (case xo => k_is)
  (case i6 => k_is)
  (case Bj => k_is)
  (case Bk => k_is)
  (case xq => k_is)
  (case i7 => k_is)
  (case Bl => k_is)
  (case Bm => k_is)
  (case xr => k_is)
  (case i8 => k_is)
  (case Bn => k_is)
  (case Bo => k_is)
  (case xt => k_is)
  (case i9 => k_is)
  (case Bp => k_is)
  (case Bq => k_is)
  (case xu => k_is)
  (case ja => k_is)
  (case Br => k_is)
  (case Bs => k_is)
  (case xx => k_is)
  (case jb => k_is)
  (case Bu => k_is)
  (case Bv => k_is)
  (case xy => k_is)
  (case jc => k_is)
  (case Bw => k_is)
  (case Bx => k_is)
  (case By => k_is)
  (case jd => k_is)
  (case Bz => k_is)
  (case BA => k_is)
  (case BB => k_is)
  (case jf => k_is)
  (case BC => k_is)
  (case BD => k_is)
  (case BE => k_is)
  (case jg => k_is)
  (case BF => k_is)
  (case BG => k_is)
  (case BH => k_is)
  (case jh => k_is)
  (case BI => k_is)
  (case BJ => k_is)
  (case BK => k_is)
  (case ji => k_is)
  (case BL => k_is)
  (case BM => k_is)
  (case BN => k_is)
  (case jk => k_is)
  (case BO => k_is)
  (case BP => k_is)
  (case BQ => k_is)
  (case jl => k_is)
  (case BR => k_is)
  (case BS => k_is)
  (case BV => k_is)
  (case jm => k_is)
  (case BW => k_is)
  (case BX => k_is)
  (case BY => k_is)
  (case jn => k_is)
  (case BZ => k_is)
  (case B0 => k_is)
  (case B2 => k_is)
  (case jo => k_is)
  (case B3 => k_is)
  (case B4 => k_is)
  (case B5 => k_is)
  (case jq => k_is)
  (case B7 => k_is)
  (case B8 => k_is)
  (case B9 => k_is)
  (case jr => k_is)
  (case Ca => k_is)
  (case Cb => k_is)
  (case Cc => k_is)
  (case jt => k_is)
  (case Cd => k_is)
  (case Ce => k_is)
  (case Cf => k_is)
  (case fX => k_is)
  (case Cg => k_is)
  (case Ci => k_is)
  (case Cj => k_is)
  (case Ck => k_is)
  (case Cm => k_is)
  (case Cn => k_is)
  (case Co => k_is)
  (case Cp => k_is)
  (case Cq => k_is)
  (case Cr => k_is)
  (case Cs => k_is)
  (case Ct => k_is)
  (case Cu => k_is)
  (case Cv => k_is)
  (case Cw => k_is)
  (case CD => k_is)
  (case CF => k_is)
  (case CG => k_is)
  (case CH => k_is)
  (case jv => k_is)
  (case jw => k_is)
  (case kE => k_is)
  (case kF => k_is)
  (case nZ => k_is)
  (case fA => k_is)
  (case CI => k_is)
  (case n3 => k_is)
  (case CJ => k_is)
  (case CK => k_is)
  (case CL => k_is)
  (case CM => k_is)
  (case CN => k_is)
  (case CO => k_is)
  (case CP => k_is)
  (case CQ => k_is)
  (case CS => k_exc)
  (case CT => k_is)
  (case CU => k_is)
  (case CV => k_is)
  (case CW => k_is)
  (case CY => k_is)
  (case CZ => k_exc)
  (case C0 => k_is)
  (case C1 => k_is)
  (case C2 => k_is)
  (case C3 => k_is)
  (case C4 => k_is)
  (case C5 => k_exc)
  (case C6 => k_is)
  (case C7 => k_is)
  (case C8 => k_is)
  (case C9 => k_is)
  (case Dc => k_is)
  (case Dd => k_is)
  (case De => k_is)
#print axioms PySem.Challenge.cw_gaze_k41_quarrels_holds
